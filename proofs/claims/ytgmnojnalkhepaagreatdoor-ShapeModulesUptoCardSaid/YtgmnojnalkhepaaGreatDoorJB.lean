/-
  A bundle of texts, one behind the other: ShM, ShL, ShEv, ShFew, ShC1, ShC2, ShT0.
-/
import Derived.Test.YtgmnojnalkhepaaGreatDoorProg
import Derived.WalkKit
import Derived.Below
import Derived.Lib.Hide
import Derived.KernelRfl
import Derived.Deep.Slices
import Derived.Deep.MidRow
import Derived.Deep.WholeRow
import Derived.Lib.Slices
import Derived.Lib.Agree
import Derived.Shelf.Abstract
import Derived.Deep.QuietTactic
import Derived.BigQuiet
import Derived.Deep.DeepCutAuto
import Derived.StillTailTactics
import Derived.Deep.RegionHeld3
import Derived.Lib.Walk
import Derived.Lib.SmallJoins
/-
  Constraints, types and values as they lie in memory: trees with their addresses, what their cells are, and what stays where new blocks come: no walk here.
-/
namespace Go.Proofs.YtgmnojnalkhepaaGreatDoor
open Go.RowKit
set_option linter.unusedVariables false
set_option linter.unusedSimpArgs false
set_option maxRecDepth 100000

def I64 (n : Int) : Prop := -9223372036854775808 ≤ n ∧ n ≤ 9223372036854775807
/-- a row of n elements of k cells each, below block B -/
def RowAt (B : Nat) (W : World) (a : Option Addr) (n cap k : Nat) (cells : Nat → List Value) : Prop :=
  n ≤ cap ∧ cap ≤ 140737488355328 ∧ (a = none → n = 0 ∧ cap = 0) ∧ (0 < n → ∃ g o, a = some ⟨g, o, none⟩ ∧ g < B ∧ ∀ i, i < n → ∀ j u, (cells i)[j]? = some u → W.cell? ⟨g, o + i * k + j, none⟩ = some u)
theorem RowAt.below {B B' : Nat} {W W' : World} {a : Option Addr} {n cap k : Nat} {cells : Nat → List Value} (h : RowAt B W a n cap k cells) (hb : Below B' W W') (hB : B ≤ B') : RowAt B' W' a n cap k cells :=
  ⟨h.1, h.2.1, h.2.2.1, fun hn => by
    obtain ⟨g, o, ha, hg, hc⟩ := h.2.2.2 hn
    exact ⟨g, o, ha, by omega, fun i hi j u hj => by rw [hb.cell (p := ⟨g, o + i * k + j, none⟩) (by show g < B'; omega)]; exact hc i hi j u hj⟩⟩
theorem RowAt.mono {B B' : Nat} {W : World} {a : Option Addr} {n cap k : Nat} {cells : Nat → List Value} (h : RowAt B W a n cap k cells) (hB : B ≤ B') : RowAt B' W a n cap k cells := h.below (Below.refl B' W) hB

/-- a list of strings -/
structure SL where
  a : Option Addr
  n : Nat
  cap : Nat
  f : Nat → ByteArray
def SL.v (s : SL) : Value := .slice s.a s.n s.cap
def SLIn (B : Nat) (W : World) (s : SL) : Prop := RowAt B W s.a s.n s.cap 1 (fun i => [.string (s.f i)]) ∧ ∀ i, i < s.n → (s.f i).size ≤ 140737488355328
theorem SLIn.below {B B' : Nat} {W W' : World} {s : SL} (h : SLIn B W s) (hb : Below B' W W') (hB : B ≤ B') : SLIn B' W' s := ⟨h.1.below hb hB, h.2⟩

/-- a constraint -/
inductive CT where
  | nil
  | mk (op lo hi : Int) (low high : Bool) (a : Option Addr) (n cap : Nat) (ch : Nat → CT)
def CT.cells : CT → List Value
  | .nil => []
  | .mk op lo hi low high a n cap _ => [.int .i64 op, .int .i64 lo, .int .i64 hi, .bool low, .bool high, .slice a n cap]
def CT.v (c : CT) : Value := .agg c.cells.toArray
def CIn (B : Nat) (W : World) : CT → Prop
  | .nil => False
  | .mk op lo hi low high a n cap ch => (I64 op ∧ I64 lo ∧ I64 hi) ∧ RowAt B W a n cap 6 (fun i => (ch i).cells) ∧ ∀ i, i < n → CIn B W (ch i)
theorem CIn.below {B B' : Nat} {W W' : World} : ∀ {c : CT}, CIn B W c → Below B' W W' → B ≤ B' → CIn B' W' c
  | .nil, h, _, _ => h.elim
  | .mk op lo hi low high a n cap ch, h, hb, hB => ⟨h.1, h.2.1.below hb hB, fun i hi => CIn.below (h.2.2 i hi) hb hB⟩
def CT.op : CT → Int
  | .nil => 0
  | .mk op .. => op

/-- a value -/
inductive VT where
  | nil
  | mk (k m : Int) (s : ByteArray) (nm : SL) (a : Option Addr) (n cap : Nat) (ch : Nat → VT)
def VT.cells : VT → List Value
  | .nil => []
  | .mk k m s nm a n cap _ => [.int .i64 k, .int .i64 m, .string s, nm.v, .slice a n cap]
def VT.v (x : VT) : Value := .agg x.cells.toArray
def VIn (B : Nat) (W : World) : VT → Prop
  | .nil => False
  | .mk k m s nm a n cap ch => (I64 k ∧ I64 m ∧ s.size ≤ 140737488355328 ∧ SLIn B W nm) ∧ RowAt B W a n cap 5 (fun i => (ch i).cells) ∧ ∀ i, i < n → VIn B W (ch i)
theorem VIn.below {B B' : Nat} {W W' : World} : ∀ {c : VT}, VIn B W c → Below B' W W' → B ≤ B' → VIn B' W' c
  | .nil, h, _, _ => h.elim
  | .mk k m s nm a n cap ch, h, hb, hB => ⟨⟨h.1.1, h.1.2.1, h.1.2.2.1, h.1.2.2.2.below hb hB⟩, h.2.1.below hb hB, fun i hi => VIn.below (h.2.2 i hi) hb hB⟩

/-- a list of values -/
structure DL where
  a : Option Addr
  n : Nat
  cap : Nat
  f : Nat → VT
def DL.v (s : DL) : Value := .slice s.a s.n s.cap
def DLIn (B : Nat) (W : World) (s : DL) : Prop := RowAt B W s.a s.n s.cap 5 (fun i => (s.f i).cells) ∧ ∀ i, i < s.n → VIn B W (s.f i)
theorem DLIn.below {B B' : Nat} {W W' : World} {s : DL} (h : DLIn B W s) (hb : Below B' W W') (hB : B ≤ B') : DLIn B' W' s := ⟨h.1.below hb hB, fun i hi => (h.2 i hi).below hb hB⟩

/-- a part without its type -/
structure PD where
  name : ByteArray
  opt : Bool
  d : DL
/-- a list of parts without their types -/
structure PL where
  a : Option Addr
  n : Nat
  cap : Nat
  f : Nat → PD
def PL.v (s : PL) : Value := .slice s.a s.n s.cap

/-- a type -/
inductive TT where
  | nil
  | mk (kind : Int) (name : ByteArray) (con : CT) (ext : Bool) (fr : ByteArray) (nm mo : SL) (pa : PL) (pt : Nat → TT) (ad : PL) (at_ : Nat → TT) (ea : Option Addr) (en ecap : Nat) (et : Nat → TT)
def TT.cells : TT → List Value
  | .nil => []
  | .mk kind name con ext fr nm mo pa _ ad _ ea en ecap _ => [.int .i64 kind, .string name] ++ con.cells ++ [.bool ext, .string fr, nm.v, mo.v, pa.v, ad.v, .slice ea en ecap]
def TT.v (t : TT) : Value := .agg t.cells.toArray
def pcells (p : PD) (t : TT) : List Value := [.string p.name] ++ t.cells ++ [.bool p.opt, p.d.v]
def PDIn (B : Nat) (W : World) (p : PD) : Prop := p.name.size ≤ 140737488355328 ∧ DLIn B W p.d
theorem PDIn.below {B B' : Nat} {W W' : World} {p : PD} (h : PDIn B W p) (hb : Below B' W W') (hB : B ≤ B') : PDIn B' W' p := ⟨h.1, h.2.below hb hB⟩
def TIn (B : Nat) (W : World) : TT → Prop
  | .nil => False
  | .mk kind name con ext fr nm mo pa pt ad at_ ea en ecap et =>
    (I64 kind ∧ name.size ≤ 140737488355328 ∧ CIn B W con ∧ fr.size ≤ 140737488355328 ∧ SLIn B W nm ∧ SLIn B W mo) ∧
    (RowAt B W pa.a pa.n pa.cap 18 (fun i => pcells (pa.f i) (pt i)) ∧ ∀ i, i < pa.n → PDIn B W (pa.f i) ∧ TIn B W (pt i)) ∧
    (RowAt B W ad.a ad.n ad.cap 18 (fun i => pcells (ad.f i) (at_ i)) ∧ ∀ i, i < ad.n → PDIn B W (ad.f i) ∧ TIn B W (at_ i)) ∧
    (RowAt B W ea en ecap 15 (fun i => (et i).cells) ∧ ∀ i, i < en → TIn B W (et i))
theorem TIn.below {B B' : Nat} {W W' : World} : ∀ {t : TT}, TIn B W t → Below B' W W' → B ≤ B' → TIn B' W' t
  | .nil, h, _, _ => h.elim
  | .mk kind name con ext fr nm mo pa pt ad at_ ea en ecap et, ⟨⟨h1, h2, h3, h4, h5, h6⟩, ⟨p1, p2⟩, ⟨a1, a2⟩, ⟨e1, e2⟩⟩, hb, hB =>
    ⟨⟨h1, h2, h3.below hb hB, h4, h5.below hb hB, h6.below hb hB⟩,
     ⟨p1.below hb hB, fun i hi => ⟨(p2 i hi).1.below hb hB, TIn.below (p2 i hi).2 hb hB⟩⟩,
     ⟨a1.below hb hB, fun i hi => ⟨(a2 i hi).1.below hb hB, TIn.below (a2 i hi).2 hb hB⟩⟩,
     ⟨e1.below hb hB, fun i hi => TIn.below (e2 i hi) hb hB⟩⟩

/-- all of the first n -/
def allN (f : Nat → Bool) : Nat → Bool
  | 0 => true
  | n + 1 => allN f n && f n
theorem allN_no {f : Nat → Bool} {i n : Nat} (hi : i < n) (hf : f i = false) : allN f n = false := by
  induction n with
  | zero => omega
  | succ n ih =>
    rcases Nat.lt_or_ge i n with h | h
    · simp only [allN, ih h, Bool.false_and]
    · obtain rfl : i = n := by omega
      simp only [allN, hf, Bool.and_false]
theorem allN_iff {f : Nat → Bool} {n : Nat} : allN f n = true ↔ ∀ i, i < n → f i = true := by
  induction n with
  | zero => simp [allN]
  | succ n ih =>
    simp only [allN, Bool.and_eq_true, ih]
    constructor
    · intro h i hi
      rcases Nat.lt_or_ge i n with h2 | h2
      · exact h.1 i h2
      · obtain rfl : i = n := by omega
        exact h.2
    · exact fun h => ⟨fun i hi => h i (by omega), h n (by omega)⟩
theorem allN_succ {f : Nat → Bool} {n : Nat} (h : allN f n = true) (hf : f n = true) : allN f (n + 1) = true := by simp only [allN, h, hf, Bool.and_self]
end Go.Proofs.YtgmnojnalkhepaaGreatDoor

/-
  Reading what lies in a row: an element's address, its cells at once.
-/
namespace Go.Proofs.YtgmnojnalkhepaaGreatDoor
open Go.RowKit
set_option linter.unusedVariables false
set_option linter.unusedSimpArgs false
set_option maxRecDepth 100000

/-- block g is a variable of these cells -/
def Bx (W : World) (g : Nat) (cs : Array Value) (t : TypeId) : Prop := W.heap[g]? = some (.cells cs t (0, 0))
theorem Bx.new (w : World) (cs : Array Value) (t : TypeId) : Bx (w.alloc (.cells cs t)) w.heap.size cs t := heap_alloc_new _ _
theorem Bx.lt {w : World} {g : Nat} {cs : Array Value} {t : TypeId} (h : Bx w g cs t) : g < w.heap.size := (Array.getElem?_eq_some_iff.1 h).1
theorem Bx.below {w w' : World} {g : Nat} {cs : Array Value} {t : TypeId} {B : Nat} (h : Bx w g cs t) (ho : Below B w w') (hB : g < B) : Bx w' g cs t := (ho.block g hB).trans h
theorem Bx.alloc {w : World} {g : Nat} {cs : Array Value} {t : TypeId} (h : Bx w g cs t) (o : Obj) : Bx (w.alloc o) g cs t := (Below.heap_alloc w o g h.lt).trans h
theorem Bx.drew {w : World} {g : Nat} {cs : Array Value} {t : TypeId} (h : Bx w g cs t) (n : Nat) : Bx (w.drewN n) g cs t := h
theorem Bx.cell {w : World} {g : Nat} {cs : Array Value} {t : TypeId} (h : Bx w g cs t) (j : Nat) {v : Value} (hj : cs[j]? = some v) : w.cell? ⟨g, j, none⟩ = some v := (cell_of_row w g j cs t _ h).trans hj

/-- a whole variable stored into the block that was made last -/
theorem wpList_store_new {ops : Array Oper} {rest : List Oper} {op : Oper} {a : Act} {w : World} {Q : Exit → Act → World → Prop} (hgd : op.guard = none) (ty : TypeId) (x y : Operand) (ho : op.op = .store ty x y) (k : Nat)
    (c : Array Value) (cs : List Value) (hl : cs.length = k) (hc : c.size = k) (hi : (Tryz.prog.info? ty).map (·.size) = some k) (h1 : ∀ v ∈ cs, v.oneCell' = true)
    (hx : a.eval x = .pointer (some ⟨w.heap.size, 0, none⟩)) (hy : a.eval y = .agg cs.toArray)
    (h : wpList Tryz.prog ops Q rest (a.put op.dst undef) (w.alloc (.cells cs.toArray ty))) : wpList Tryz.prog ops Q (op :: rest) a (w.alloc (.cells c ty)) := by
  refine wpList_plain hgd fun _ hK => ?_
  unfold Oper.wp execOp
  simp only [ho, hx, hy, Instr.storeAt, Instr.sureAddr, Sem.run_bind, Sem.run_pure, Result.andThen_ok, run_storeVar_new (P := Tryz.prog) w ty c cs.toArray (by rw [hi]; simp [hl]) (by simp [hl, hc]) (all_oneCell_toArray h1)]
  exact hK _ _ h
theorem Bx.setRow {w : World} {g : Nat} {c : Array Value} {t : TypeId} (h : Bx w g c t) (cs : Array Value) : Bx (w.setRow g cs) g cs t ∧ Below g w (w.setRow g cs) ∧ (w.setRow g cs).heap.size = w.heap.size ∧ ∀ j, j ≠ g → (w.setRow g cs).heap[j]? = w.heap[j]? := by
  have hj : ∀ j, j ≠ g → (w.setRow g cs).heap[j]? = w.heap[j]? := fun j hj => by
    simp only [World.setRow, Array.getElem?_modify, if_neg (Ne.symm hj)]
  refine ⟨?_, ⟨rfl, rfl, rfl, by simp [World.setRow], fun k hk => hj k (by omega)⟩, by simp [World.setRow], hj⟩
  unfold Bx at h ⊢
  simp [World.setRow, Array.getElem?_modify, h]
/-- a whole variable stored into its block -/
theorem wpList_store_bx {ops : Array Oper} {rest : List Oper} {op : Oper} {a : Act} {w : World} {Q : Exit → Act → World → Prop} (hgd : op.guard = none) (ty : TypeId) (x y : Operand) (ho : op.op = .store ty x y) (k g : Nat)
    (c : Array Value) (cs : List Value) (hb : Bx w g c ty) (hl : cs.length = k) (hc : c.size = k) (hi : (Tryz.prog.info? ty).map (·.size) = some k) (h1 : ∀ v ∈ cs, v.oneCell' = true)
    (hx : a.eval x = .pointer (some ⟨g, 0, none⟩)) (hy : a.eval y = .agg cs.toArray)
    (h : ∀ w', w'.heap.size = w.heap.size → Bx w' g cs.toArray ty → Below g w w' → (∀ j, j ≠ g → w'.heap[j]? = w.heap[j]?) → wpList Tryz.prog ops Q rest (a.put op.dst undef) w') : wpList Tryz.prog ops Q (op :: rest) a w := by
  refine wpList_plain hgd fun _ hK => ?_
  unfold Oper.wp execOp
  simp only [ho, hx, hy, Instr.storeAt, Instr.sureAddr, Sem.run_bind, Sem.run_pure, Result.andThen_ok, run_storeVar_row (P := Tryz.prog) w g ty ty c cs.toArray hb (by rw [hi]; simp [hl]) (by simp [hl, hc]) (all_oneCell_toArray h1)]
  obtain ⟨e1, e2, e3, e4⟩ := hb.setRow cs.toArray
  exact hK _ _ (h _ e3 e1 e2 e4)
theorem Bx.range {w : World} {g : Nat} {cs : List Value} {t : TypeId} (h : Bx w g cs.toArray t) : w.rangeAt g 0 cs := fun j v hv => by
  rw [Nat.zero_add]
  exact h.cell j (by simpa using hv)
theorem wrap_ok {x : Int} (h : I64 x) : IntKind.i64.wrap x = x := by
  have h2 := h
  unfold I64 at h2
  rw [IntKind.wrap_i64]
  omega
theorem wrap_succ {i n : Nat} (h : i < n) (hn : n ≤ 9223372036854775807) : IntKind.i64.wrap ((i : Int) + 1) = ((i + 1 : Nat) : Int) := (wrap_ok (x := (i : Int) + 1) (by unfold I64; omega)).trans (by omega)
/-- the element's address and its cells -/
theorem RowAt.read {B : Nat} {W : World} {a : Option Addr} {n cap k : Nat} {cells : Nat → List Value} (h : RowAt B W a n cap k cells) (t e : TypeId) (hu : Tryz.prog.underlying t = some (.slice e)) (he : Tryz.prog.elem t = e) (hs : ∀ w, (sizeOf e).run Tryz.prog w = .ok k w) {i : Nat} (hi : i < n) :
    ∃ gx ox : Nat, (∀ w, (Instr.indexAt t (.slice a n cap) (.int .i64 (i : Nat))).run Tryz.prog w = .ok (.pointer (some ⟨gx, ox, none⟩)) w) ∧ gx < B ∧ ∀ w : World, w.heap[gx]? = W.heap[gx]? → ∀ j u, (cells i)[j]? = some u → w.cell? ⟨gx, ox + j, none⟩ = some u := by
  obtain ⟨g, o, rfl, hg, hc⟩ := h.2.2.2 (by omega)
  refine ⟨g, o + i * k, fun w => ?_, hg, fun w hw j u hj => ?_⟩
  · rw [run_indexAt_slice (h := by rw [he]; exact hu), if_pos (by omega), he, hs]
    simp [Result.andThen, Addr.add_mid]
  · exact (World.cell?_of_block (w := W) (a := ⟨g, o + i * k + j, none⟩) hw).trans (hc i hi j u hj)
/-- a constraint in a row: its address and its six cells -/
theorem cRow_read {B : Nat} {W : World} {a : Option Addr} {n cap : Nat} {ch : Nat → CT} (h : RowAt B W a n cap 6 (fun i => (ch i).cells)) {i : Nat} (hi : i < n) (hc : CIn B W (ch i)) :
    ∃ gx ox op lo hi low high a' n' cap' ch', ch i = .mk op lo hi low high a' n' cap' ch' ∧ (∀ w, (Instr.indexAt 32 (.slice a n cap) (.int .i64 (i : Nat))).run Tryz.prog w = .ok (.pointer (some ⟨gx, ox, none⟩)) w) ∧ gx < B ∧
      ∀ w : World, w.heap[gx]? = W.heap[gx]? → w.cell? ⟨gx, ox, none⟩ = some (.int .i64 op) ∧ w.cell? ⟨gx, ox + 1, none⟩ = some (.int .i64 lo) ∧ w.cell? ⟨gx, ox + 2, none⟩ = some (.int .i64 hi) ∧ w.cell? ⟨gx, ox + 3, none⟩ = some (.bool low) ∧ w.cell? ⟨gx, ox + 4, none⟩ = some (.bool high) ∧ w.cell? ⟨gx, ox + 5, none⟩ = some (.slice a' n' cap') := by
  obtain ⟨gx, ox, h1, h2, h3⟩ := h.read 32 34 Tryz.underlying32 (by kernel_rfl) Tryz.sizeOf34 hi
  cases hch : ch i with
  | nil => rw [hch] at hc; exact hc.elim
  | mk op lo hi low high a' n' cap' ch' =>
    refine ⟨gx, ox, op, lo, hi, low, high, a', n', cap', ch', rfl, h1, h2, fun w hw => ?_⟩
    have hx := h3 w hw
    rw [hch] at hx
    exact ⟨hx 0 _ rfl, hx 1 _ rfl, hx 2 _ rfl, hx 3 _ rfl, hx 4 _ rfl, hx 5 _ rfl⟩
end Go.Proofs.YtgmnojnalkhepaaGreatDoor

/-
  Package shape: 'every' at each element type, over whatever function tells of an element; rows' readers.
-/
namespace Go.Proofs.YtgmnojnalkhepaaGreatDoor
open Go.RowKit
set_option linter.unusedVariables false
set_option linter.unusedSimpArgs false
set_option maxRecDepth 100000

/-- a predicate in memory: in each world that keeps what lay in w, called with the i-th value it tells p i -/
def PredN (w : World) (fn : FuncId) (first cap : Array Value) (n : Nat) (v : Nat → Value) (p : Nat → Bool) : Prop :=
  ∀ i, i < n → ∀ w', Below w.heap.size w w' → Calls Tryz.prog fn (first ++ #[v i] ++ cap) w' fun e w'' => e = .returned (.bool (p i)) ∧ Below w'.heap.size w' w''
def RelEv (w : World) (n : Nat) (p : Nat → Bool) (iv : Value) (wr : World) : Prop := ∃ i : Nat, i ≤ n ∧ iv = .int .i64 (i : Nat) ∧ allN p i = true ∧ Below w.heap.size w wr
/-- a value in a row -/
theorem vRow_read {B : Nat} {W : World} {a : Option Addr} {n cap : Nat} {ch : Nat → VT} (h : RowAt B W a n cap 5 (fun i => (ch i).cells)) {i : Nat} (hi : i < n) (hc : VIn B W (ch i)) :
    ∃ gx ox kd m s na nn ncap nf a' n' cap' ch', ch i = .mk kd m s ⟨na, nn, ncap, nf⟩ a' n' cap' ch' ∧ (∀ w, (Instr.indexAt 40 (.slice a n cap) (.int .i64 (i : Nat))).run Tryz.prog w = .ok (.pointer (some ⟨gx, ox, none⟩)) w) ∧ gx < B ∧
      ∀ w : World, w.heap[gx]? = W.heap[gx]? → w.cell? ⟨gx, ox, none⟩ = some (.int .i64 kd) ∧ w.cell? ⟨gx, ox + 1, none⟩ = some (.int .i64 m) ∧ w.cell? ⟨gx, ox + 2, none⟩ = some (.string s) ∧ w.cell? ⟨gx, ox + 3, none⟩ = some (.slice na nn ncap) ∧ w.cell? ⟨gx, ox + 4, none⟩ = some (.slice a' n' cap') := by
  obtain ⟨gx, ox, h1, h2, h3⟩ := h.read 40 44 Tryz.underlying40 (by kernel_rfl) Tryz.sizeOf44 hi
  cases hch : ch i with
  | nil => rw [hch] at hc; exact hc.elim
  | mk kd m s nm a' n' cap' ch' =>
    obtain ⟨na, nn, ncap, nf⟩ := nm
    refine ⟨gx, ox, kd, m, s, na, nn, ncap, nf, a', n', cap', ch', rfl, h1, h2, fun w hw => ?_⟩
    have hx := h3 w hw
    rw [hch] at hx
    exact ⟨hx 0 _ rfl, hx 1 _ rfl, hx 2 _ rfl, hx 3 _ rfl, hx 4 _ rfl⟩
/-- a type in a row -/
theorem TIn.open {B : Nat} {W : World} {t : TT} (h : TIn B W t) : ∃ kd' tn' op' lo' hi' lw' hg' ca' cn' cc' cch' ext' fr' sa' sn' sc' sf' ma' mn' mc' mf' pa' pn' pc' pf' ptf' aa' an' ac' af' atf' ea' en' ec' etf', t = .mk kd' tn' (.mk op' lo' hi' lw' hg' ca' cn' cc' cch') ext' fr' ⟨sa', sn', sc', sf'⟩ ⟨ma', mn', mc', mf'⟩ ⟨pa', pn', pc', pf'⟩ ptf' ⟨aa', an', ac', af'⟩ atf' ea' en' ec' etf' := by
  cases t with
  | nil => exact h.elim
  | mk kd tn con ext fr nm mo pa pt ad at_ ea en ec et =>
    cases con with
    | nil => exact h.1.2.2.1.elim
    | mk op lo hi lw hg ca cn cc cch => exact ⟨_, _, _, _, _, _, _, _, _, _, _, _, _, _, _, _, _, _, _, _, _, _, _, _, _, _, _, _, _, _, _, _, _, _, _, rfl⟩
theorem one_tcells {B : Nat} {W : World} {t : TT} (h : TIn B W t) : t.cells.length = 15 ∧ ∀ v ∈ t.cells, v.oneCell' = true := by
  obtain ⟨kd', tn', op', lo', hi', lw', hg', ca', cn', cc', cch', ext', fr', sa', sn', sc', sf', ma', mn', mc', mf', pa', pn', pc', pf', ptf', aa', an', ac', af', atf', ea', en', ec', etf', rfl⟩ := h.open
  refine ⟨rfl, fun v hv => ?_⟩
  simp only [TT.cells, CT.cells, SL.v, PL.v, List.cons_append, List.nil_append, List.mem_cons, List.not_mem_nil, or_false] at hv
  rcases hv with rfl | rfl | rfl | rfl | rfl | rfl | rfl | rfl | rfl | rfl | rfl | rfl | rfl | rfl | rfl <;> rfl
/-- a part's value -/
def pval (p : PD) (t : TT) : Value := .agg (pcells p t).toArray
theorem one_pcells {B : Nat} {W : World} {p : PD} {t : TT} (h : TIn B W t) : (pcells p t).length = 18 ∧ ∀ v ∈ pcells p t, v.oneCell' = true := by
  obtain ⟨h1, h2⟩ := one_tcells h
  refine ⟨by simp [pcells, h1], fun v hv => ?_⟩
  simp only [pcells, List.mem_append, List.mem_cons, List.not_mem_nil, or_false] at hv
  rcases hv with (rfl | hv) | rfl | rfl
  · rfl
  · exact h2 v hv
  · rfl
  · rfl
theorem tRow_read {B : Nat} {W : World} {a : Option Addr} {n cap : Nat} {ch : Nat → TT} (h : RowAt B W a n cap 15 (fun i => (ch i).cells)) {i : Nat} (hi : i < n) :
    ∃ gx ox : Nat, (∀ w, (Instr.indexAt 37 (.slice a n cap) (.int .i64 (i : Nat))).run Tryz.prog w = .ok (.pointer (some ⟨gx, ox, none⟩)) w) ∧ gx < B ∧ ∀ w : World, w.heap[gx]? = W.heap[gx]? → w.rangeAt gx ox (ch i).cells :=
  h.read 37 39 Tryz.underlying37 (by kernel_rfl) Tryz.sizeOf39 hi
theorem pRow_read {B : Nat} {W : World} {a : Option Addr} {n cap : Nat} {pf : Nat → PD} {pt : Nat → TT} (h : RowAt B W a n cap 18 (fun i => pcells (pf i) (pt i))) {i : Nat} (hi : i < n) :
    ∃ gx ox : Nat, (∀ w, (Instr.indexAt 36 (.slice a n cap) (.int .i64 (i : Nat))).run Tryz.prog w = .ok (.pointer (some ⟨gx, ox, none⟩)) w) ∧ gx < B ∧ ∀ w : World, w.heap[gx]? = W.heap[gx]? → w.rangeAt gx ox (pcells (pf i) (pt i)) :=
  h.read 36 42 Tryz.underlying36 (by kernel_rfl) Tryz.sizeOf42 hi
theorem info_T : (Tryz.prog.info? 39).map (·.size) = some 15 := by kernel_rfl
theorem info_P : (Tryz.prog.info? 42).map (·.size) = some 18 := by kernel_rfl
set_option maxHeartbeats 8000000 in
theorem everyC_ok (B : Nat) (w : World) (a : Option Addr) (n cap : Nat) (ch : Nat → CT) (fn : FuncId) (first lb : Array Value) (p : Nat → Bool) (hen0 : Enters Tryz.prog fn)
    (hB : B ≤ w.heap.size) (hrow : RowAt B w a n cap 6 (fun i => (ch i).cells)) (hch : ∀ i, i < n → CIn B w (ch i)) (hp : PredN w fn first lb n (fun i => (ch i).v) p) :
    Calls Tryz.prog 102 #[.slice a n cap, .func (.func fn) first lb] w fun e w' => e = .returned (.bool (allN p n)) ∧ Below w.heap.size w w' := by
  have hen : ∀ (args : Array Value) (w : World), (callFunc fn args).run Tryz.prog w = .ok (.enter fn args) w := hen0
  have HROW := Lib.hid hrow
  have HCH := Lib.hid hch
  have HP := Lib.hid hp
  have HBB := Lib.hid hB
  have hn : n ≤ 9223372036854775807 := by have := hrow.1; have := hrow.2.1; omega
  have HB0 := Lib.hid (Below.refl w.heap.size w)
  clear hrow hp hB hch
  go_enter Tryz.func102, Tryz.ntmps102
  go_wp2_with fail
  go_loopw [9] (fun iv wr => RelEv w n p iv wr) (fun iv _ => n - (Lib.intOf iv).toNat)
  case atStart => exact ⟨0, Nat.zero_le _, rfl, rfl, HB0.out⟩
  case round =>
    obtain ⟨i, hi, rfl, hall, hbel⟩ := hrel
    have HB := Lib.hid hbel
    have HA := Lib.hid hall
    have hsz := hbel.size
    clear hbel hall
    by_cases hlt : i < n
    · have q1 : decide ((i : Int) < (n : Int)) = true := decide_eq_true (by omega)
      have q1n : decide (i < n) = true := decide_eq_true hlt
      obtain ⟨gx, ox, op', lo', hi', low', high', a', n', cap', ch', hchi, hix, hgx, hrd⟩ := cRow_read HROW.out hlt (HCH.out i hlt)
      obtain ⟨k0, k1, k2, k3, k4, k5⟩ := hrd wr (HB.out.block gx (by have := HBB.out; omega))
      have HC := Lib.hid (show ∀ w', Below w.heap.size w w' → Calls Tryz.prog fn (first ++ #[(ch i).v] ++ lb) w' fun e w'' => e = .returned (.bool (p i)) ∧ Below w'.heap.size w' w'' from HP.out i hlt)
      rw [hchi] at HC
      simp only [CT.v, CT.cells] at HC
      clear hchi
      clear hrd
      have q3 : IntKind.i64.wrap ((i : Int) + 1) = ((i + 1 : Nat) : Int) := wrap_succ hlt hn
      have HBA := Lib.hid (HB.out.alloc hsz (.cells #[.int .i64 op', .int .i64 lo', .int .i64 hi', .bool low', .bool high', .slice a' n' cap'] 34))
      cases hpi : p i with
      | true =>
        have HN := Lib.hid (allN_succ HA.out hpi)
        rw [hpi] at HC
        clear hpi
        go_wp2_with fail
        refine (HC.out _ HBA.out).mono ?_
        rintro e w1 ⟨rfl, hb⟩
        have HB1 := Lib.hid (HBA.out.trans (hb.mono HBA.out.size))
        clear hb
        go_wp2_with fail
        go_roundw
        case rel => exact ⟨i + 1, hlt, rfl, HN.out, HB1.out⟩
        case measure => simp only [Lib.intOf]; omega
      | false =>
        have HN := Lib.hid (allN_no hlt hpi)
        rw [hpi] at HC
        clear hpi
        go_wp2_with fail
        refine (HC.out _ HBA.out).mono ?_
        rintro e w1 ⟨rfl, hb⟩
        have HB1 := Lib.hid (HBA.out.trans (hb.mono HBA.out.size))
        clear hb
        go_wp2_with fail
        go_ret
        refine ⟨?_, HB1.out⟩
        rw [HN.out]
        rfl
    · have q1 : decide ((i : Int) < (n : Int)) = false := decide_eq_false (by omega)
      have q1n : decide (i < n) = false := decide_eq_false hlt
      obtain rfl : i = n := by omega
      go_wp2_with fail
      go_ret
      refine ⟨?_, HB.out⟩
      rw [HA.out]
      rfl
set_option maxHeartbeats 8000000 in
theorem everyS_ok (B : Nat) (w : World) (a : Option Addr) (n cap : Nat) (sv : Nat → ByteArray) (fn : FuncId) (first lb : Array Value) (p : Nat → Bool) (hen0 : Enters Tryz.prog fn)
    (hB : B ≤ w.heap.size) (hrow : RowAt B w a n cap 1 (fun i => [.string (sv i)])) (hp : PredN w fn first lb n (fun i => .string (sv i)) p) :
    Calls Tryz.prog 64 #[.slice a n cap, .func (.func fn) first lb] w fun e w' => e = .returned (.bool (allN p n)) ∧ Below w.heap.size w w' := by
  have hen : ∀ (args : Array Value) (w : World), (callFunc fn args).run Tryz.prog w = .ok (.enter fn args) w := hen0
  have HROW := Lib.hid hrow
  have HP := Lib.hid hp
  have HBB := Lib.hid hB
  have hn : n ≤ 9223372036854775807 := by have := hrow.1; have := hrow.2.1; omega
  have HB0 := Lib.hid (Below.refl w.heap.size w)
  clear hrow hp hB 
  go_enter Tryz.func64, Tryz.ntmps64
  go_wp2_with fail
  go_loopw [9] (fun iv wr => RelEv w n p iv wr) (fun iv _ => n - (Lib.intOf iv).toNat)
  case atStart => exact ⟨0, Nat.zero_le _, rfl, rfl, HB0.out⟩
  case round =>
    obtain ⟨i, hi, rfl, hall, hbel⟩ := hrel
    have HB := Lib.hid hbel
    have HA := Lib.hid hall
    have hsz := hbel.size
    clear hbel hall
    by_cases hlt : i < n
    · have q1 : decide ((i : Int) < (n : Int)) = true := decide_eq_true (by omega)
      have q1n : decide (i < n) = true := decide_eq_true hlt
      obtain ⟨gx, ox, hix, hgx, hrd⟩ := HROW.out.read 35 9 Tryz.underlying35 (by kernel_rfl) Tryz.sizeOf9 hlt
      have k0 : wr.cell? ⟨gx, ox, none⟩ = some (.string (sv i)) := hrd wr (HB.out.block gx (by have := HBB.out; omega)) 0 _ rfl
      have HC := Lib.hid (show ∀ w', Below w.heap.size w w' → Calls Tryz.prog fn (first ++ #[.string (sv i)] ++ lb) w' fun e w'' => e = .returned (.bool (p i)) ∧ Below w'.heap.size w' w'' from HP.out i hlt)
      clear hrd
      have q3 : IntKind.i64.wrap ((i : Int) + 1) = ((i + 1 : Nat) : Int) := wrap_succ hlt hn
      have HBA := Lib.hid HB.out
      cases hpi : p i with
      | true =>
        have HN := Lib.hid (allN_succ HA.out hpi)
        rw [hpi] at HC
        clear hpi
        go_wp2_with fail
        refine (HC.out _ HBA.out).mono ?_
        rintro e w1 ⟨rfl, hb⟩
        have HB1 := Lib.hid (HBA.out.trans (hb.mono HBA.out.size))
        clear hb
        go_wp2_with fail
        go_roundw
        case rel => exact ⟨i + 1, hlt, rfl, HN.out, HB1.out⟩
        case measure => simp only [Lib.intOf]; omega
      | false =>
        have HN := Lib.hid (allN_no hlt hpi)
        rw [hpi] at HC
        clear hpi
        go_wp2_with fail
        refine (HC.out _ HBA.out).mono ?_
        rintro e w1 ⟨rfl, hb⟩
        have HB1 := Lib.hid (HBA.out.trans (hb.mono HBA.out.size))
        clear hb
        go_wp2_with fail
        go_ret
        refine ⟨?_, HB1.out⟩
        rw [HN.out]
        rfl
    · have q1 : decide ((i : Int) < (n : Int)) = false := decide_eq_false (by omega)
      have q1n : decide (i < n) = false := decide_eq_false hlt
      obtain rfl : i = n := by omega
      go_wp2_with fail
      go_ret
      refine ⟨?_, HB.out⟩
      rw [HA.out]
      rfl
set_option maxHeartbeats 8000000 in
theorem everyV_ok (B : Nat) (w : World) (a : Option Addr) (n cap : Nat) (ch : Nat → VT) (fn : FuncId) (first lb : Array Value) (p : Nat → Bool) (hen0 : Enters Tryz.prog fn)
    (hB : B ≤ w.heap.size) (hrow : RowAt B w a n cap 5 (fun i => (ch i).cells)) (hch : ∀ i, i < n → VIn B w (ch i)) (hp : PredN w fn first lb n (fun i => (ch i).v) p) :
    Calls Tryz.prog 79 #[.slice a n cap, .func (.func fn) first lb] w fun e w' => e = .returned (.bool (allN p n)) ∧ Below w.heap.size w w' := by
  have hen : ∀ (args : Array Value) (w : World), (callFunc fn args).run Tryz.prog w = .ok (.enter fn args) w := hen0
  have HROW := Lib.hid hrow
  have HCH := Lib.hid hch
  have HP := Lib.hid hp
  have HBB := Lib.hid hB
  have hn : n ≤ 9223372036854775807 := by have := hrow.1; have := hrow.2.1; omega
  have HB0 := Lib.hid (Below.refl w.heap.size w)
  clear hrow hp hB hch
  go_enter Tryz.func79, Tryz.ntmps79
  go_wp2_with fail
  go_loopw [9] (fun iv wr => RelEv w n p iv wr) (fun iv _ => n - (Lib.intOf iv).toNat)
  case atStart => exact ⟨0, Nat.zero_le _, rfl, rfl, HB0.out⟩
  case round =>
    obtain ⟨i, hi, rfl, hall, hbel⟩ := hrel
    have HB := Lib.hid hbel
    have HA := Lib.hid hall
    have hsz := hbel.size
    clear hbel hall
    by_cases hlt : i < n
    · have q1 : decide ((i : Int) < (n : Int)) = true := decide_eq_true (by omega)
      have q1n : decide (i < n) = true := decide_eq_true hlt
      obtain ⟨gx, ox, kd', m', s', na', nn', ncap', nf', a', n', cap', ch', hchi, hix, hgx, hrd⟩ := vRow_read HROW.out hlt (HCH.out i hlt)
      obtain ⟨k0, k1, k2, k3, k4⟩ := hrd wr (HB.out.block gx (by have := HBB.out; omega))
      have HC := Lib.hid (show ∀ w', Below w.heap.size w w' → Calls Tryz.prog fn (first ++ #[(ch i).v] ++ lb) w' fun e w'' => e = .returned (.bool (p i)) ∧ Below w'.heap.size w' w'' from HP.out i hlt)
      rw [hchi] at HC
      simp only [VT.v, VT.cells, SL.v] at HC
      clear hchi
      clear hrd
      have q3 : IntKind.i64.wrap ((i : Int) + 1) = ((i + 1 : Nat) : Int) := wrap_succ hlt hn
      have HBA := Lib.hid (HB.out.alloc hsz (.cells #[.int .i64 kd', .int .i64 m', .string s', .slice na' nn' ncap', .slice a' n' cap'] 44))
      cases hpi : p i with
      | true =>
        have HN := Lib.hid (allN_succ HA.out hpi)
        rw [hpi] at HC
        clear hpi
        go_wp2_with fail
        refine (HC.out _ HBA.out).mono ?_
        rintro e w1 ⟨rfl, hb⟩
        have HB1 := Lib.hid (HBA.out.trans (hb.mono HBA.out.size))
        clear hb
        go_wp2_with fail
        go_roundw
        case rel => exact ⟨i + 1, hlt, rfl, HN.out, HB1.out⟩
        case measure => simp only [Lib.intOf]; omega
      | false =>
        have HN := Lib.hid (allN_no hlt hpi)
        rw [hpi] at HC
        clear hpi
        go_wp2_with fail
        refine (HC.out _ HBA.out).mono ?_
        rintro e w1 ⟨rfl, hb⟩
        have HB1 := Lib.hid (HBA.out.trans (hb.mono HBA.out.size))
        clear hb
        go_wp2_with fail
        go_ret
        refine ⟨?_, HB1.out⟩
        rw [HN.out]
        rfl
    · have q1 : decide ((i : Int) < (n : Int)) = false := decide_eq_false (by omega)
      have q1n : decide (i < n) = false := decide_eq_false hlt
      obtain rfl : i = n := by omega
      go_wp2_with fail
      go_ret
      refine ⟨?_, HB.out⟩
      rw [HA.out]
      rfl
set_option maxHeartbeats 8000000 in
theorem everyT_ok (B : Nat) (w : World) (a : Option Addr) (n cap : Nat) (ch : Nat → TT) (fn : FuncId) (first lb : Array Value) (p : Nat → Bool) (hen0 : Enters Tryz.prog fn)
    (hB : B ≤ w.heap.size) (hrow : RowAt B w a n cap 15 (fun i => (ch i).cells)) (hch : ∀ i, i < n → TIn B w (ch i)) (hp : PredN w fn first lb n (fun i => (ch i).v) p) :
    Calls Tryz.prog 58 #[.slice a n cap, .func (.func fn) first lb] w fun e w' => e = .returned (.bool (allN p n)) ∧ Below w.heap.size w w' := by
  have hen : ∀ (args : Array Value) (w : World), (callFunc fn args).run Tryz.prog w = .ok (.enter fn args) w := hen0
  have HROW := Lib.hid hrow
  have HCH := Lib.hid hch
  have HP := Lib.hid hp
  have HBB := Lib.hid hB
  have hn : n ≤ 9223372036854775807 := by have := hrow.1; have := hrow.2.1; omega
  have HB0 := Lib.hid (Below.refl w.heap.size w)
  clear hrow hp hB hch
  go_enter Tryz.func58, Tryz.ntmps58
  go_wp2_with fail
  go_loopw [9] (fun iv wr => RelEv w n p iv wr) (fun iv _ => n - (Lib.intOf iv).toNat)
  case atStart => exact ⟨0, Nat.zero_le _, rfl, rfl, HB0.out⟩
  case round =>
    obtain ⟨i, hi, rfl, hall, hbel⟩ := hrel
    have HB := Lib.hid hbel
    have HA := Lib.hid hall
    have hsz := hbel.size
    clear hbel hall
    by_cases hlt : i < n
    · have q1 : decide ((i : Int) < (n : Int)) = true := decide_eq_true (by omega)
      have q1n : decide (i < n) = true := decide_eq_true hlt
      obtain ⟨gx, ox, hix, hgx, hrd⟩ := tRow_read HROW.out hlt
      have HR := Lib.hid (hrd wr (HB.out.block gx (by have := HBB.out; omega)))
      have HC := Lib.hid (show ∀ w', Below w.heap.size w w' → Calls Tryz.prog fn (first ++ #[(ch i).v] ++ lb) w' fun e w'' => e = .returned (.bool (p i)) ∧ Below w'.heap.size w' w'' from HP.out i hlt)
      have H1 := Lib.hid (one_tcells (HCH.out i hlt))
      have HX := Lib.hid (Bx.new wr (ch i).cells.toArray 39)
      clear hrd
      have q3 : IntKind.i64.wrap ((i : Int) + 1) = ((i + 1 : Nat) : Int) := wrap_succ hlt hn
      have HBA := Lib.hid (HB.out.alloc hsz (.cells (ch i).cells.toArray 39))
      cases hpi : p i with
      | true =>
        have HN := Lib.hid (allN_succ HA.out hpi)
        rw [hpi] at HC
        clear hpi
        go_wp2_with (first | (refine wpList_store_new rfl 39 (.tmp 6) (.tmp 12) rfl 15 _ (ch i).cells H1.out.1 (by kernel_rfl) info_T H1.out.2 rfl rfl ?_) | (refine wpList_load_mid rfl 39 (.tmp 11) rfl gx ox rfl (ch i).cells _ HR.out Tryz.underlying39 rfl (by rw [info_T, H1.out.1]) ?_) | (refine wpList_load_mid rfl 39 (.tmp 6) rfl wr.heap.size 0 rfl (ch i).cells _ HX.out.range Tryz.underlying39 rfl (by rw [info_T, H1.out.1]) ?_))
        refine (HC.out _ HBA.out).mono ?_
        rintro e w1 ⟨rfl, hb⟩
        have HB1 := Lib.hid (HBA.out.trans (hb.mono HBA.out.size))
        clear hb
        go_wp2_with fail
        go_roundw
        case rel => exact ⟨i + 1, hlt, rfl, HN.out, HB1.out⟩
        case measure => simp only [Lib.intOf]; omega
      | false =>
        have HN := Lib.hid (allN_no hlt hpi)
        rw [hpi] at HC
        clear hpi
        go_wp2_with (first | (refine wpList_store_new rfl 39 (.tmp 6) (.tmp 12) rfl 15 _ (ch i).cells H1.out.1 (by kernel_rfl) info_T H1.out.2 rfl rfl ?_) | (refine wpList_load_mid rfl 39 (.tmp 11) rfl gx ox rfl (ch i).cells _ HR.out Tryz.underlying39 rfl (by rw [info_T, H1.out.1]) ?_) | (refine wpList_load_mid rfl 39 (.tmp 6) rfl wr.heap.size 0 rfl (ch i).cells _ HX.out.range Tryz.underlying39 rfl (by rw [info_T, H1.out.1]) ?_))
        refine (HC.out _ HBA.out).mono ?_
        rintro e w1 ⟨rfl, hb⟩
        have HB1 := Lib.hid (HBA.out.trans (hb.mono HBA.out.size))
        clear hb
        go_wp2_with fail
        go_ret
        refine ⟨?_, HB1.out⟩
        rw [HN.out]
        rfl
    · have q1 : decide ((i : Int) < (n : Int)) = false := decide_eq_false (by omega)
      have q1n : decide (i < n) = false := decide_eq_false hlt
      obtain rfl : i = n := by omega
      go_wp2_with fail
      go_ret
      refine ⟨?_, HB.out⟩
      rw [HA.out]
      rfl
set_option maxHeartbeats 8000000 in
theorem everyP_ok (B : Nat) (w : World) (a : Option Addr) (n cap : Nat) (pf : Nat → PD) (pt : Nat → TT) (fn : FuncId) (first lb : Array Value) (p : Nat → Bool) (hen0 : Enters Tryz.prog fn)
    (hB : B ≤ w.heap.size) (hrow : RowAt B w a n cap 18 (fun i => pcells (pf i) (pt i))) (hch : ∀ i, i < n → PDIn B w (pf i) ∧ TIn B w (pt i)) (hp : PredN w fn first lb n (fun i => pval (pf i) (pt i)) p) :
    Calls Tryz.prog 85 #[.slice a n cap, .func (.func fn) first lb] w fun e w' => e = .returned (.bool (allN p n)) ∧ Below w.heap.size w w' := by
  have hen : ∀ (args : Array Value) (w : World), (callFunc fn args).run Tryz.prog w = .ok (.enter fn args) w := hen0
  have HROW := Lib.hid hrow
  have HCH := Lib.hid hch
  have HP := Lib.hid hp
  have HBB := Lib.hid hB
  have hn : n ≤ 9223372036854775807 := by have := hrow.1; have := hrow.2.1; omega
  have HB0 := Lib.hid (Below.refl w.heap.size w)
  clear hrow hp hB hch
  go_enter Tryz.func85, Tryz.ntmps85
  go_wp2_with fail
  go_loopw [9] (fun iv wr => RelEv w n p iv wr) (fun iv _ => n - (Lib.intOf iv).toNat)
  case atStart => exact ⟨0, Nat.zero_le _, rfl, rfl, HB0.out⟩
  case round =>
    obtain ⟨i, hi, rfl, hall, hbel⟩ := hrel
    have HB := Lib.hid hbel
    have HA := Lib.hid hall
    have hsz := hbel.size
    clear hbel hall
    by_cases hlt : i < n
    · have q1 : decide ((i : Int) < (n : Int)) = true := decide_eq_true (by omega)
      have q1n : decide (i < n) = true := decide_eq_true hlt
      obtain ⟨gx, ox, hix, hgx, hrd⟩ := pRow_read HROW.out hlt
      have HR := Lib.hid (hrd wr (HB.out.block gx (by have := HBB.out; omega)))
      have HC := Lib.hid (show ∀ w', Below w.heap.size w w' → Calls Tryz.prog fn (first ++ #[(pval (pf i) (pt i))] ++ lb) w' fun e w'' => e = .returned (.bool (p i)) ∧ Below w'.heap.size w' w'' from HP.out i hlt)
      have H1 := Lib.hid (one_pcells (p := pf i) (HCH.out i hlt).2)
      have HX := Lib.hid (Bx.new wr (pcells (pf i) (pt i)).toArray 42)
      clear hrd
      have q3 : IntKind.i64.wrap ((i : Int) + 1) = ((i + 1 : Nat) : Int) := wrap_succ hlt hn
      have HBA := Lib.hid (HB.out.alloc hsz (.cells (pcells (pf i) (pt i)).toArray 42))
      cases hpi : p i with
      | true =>
        have HN := Lib.hid (allN_succ HA.out hpi)
        rw [hpi] at HC
        clear hpi
        go_wp2_with (first | (refine wpList_store_new rfl 42 (.tmp 6) (.tmp 12) rfl 18 _ (pcells (pf i) (pt i)) H1.out.1 (by kernel_rfl) info_P H1.out.2 rfl rfl ?_) | (refine wpList_load_mid rfl 42 (.tmp 11) rfl gx ox rfl (pcells (pf i) (pt i)) _ HR.out Tryz.underlying42 rfl (by rw [info_P, H1.out.1]) ?_) | (refine wpList_load_mid rfl 42 (.tmp 6) rfl wr.heap.size 0 rfl (pcells (pf i) (pt i)) _ HX.out.range Tryz.underlying42 rfl (by rw [info_P, H1.out.1]) ?_))
        refine (HC.out _ HBA.out).mono ?_
        rintro e w1 ⟨rfl, hb⟩
        have HB1 := Lib.hid (HBA.out.trans (hb.mono HBA.out.size))
        clear hb
        go_wp2_with fail
        go_roundw
        case rel => exact ⟨i + 1, hlt, rfl, HN.out, HB1.out⟩
        case measure => simp only [Lib.intOf]; omega
      | false =>
        have HN := Lib.hid (allN_no hlt hpi)
        rw [hpi] at HC
        clear hpi
        go_wp2_with (first | (refine wpList_store_new rfl 42 (.tmp 6) (.tmp 12) rfl 18 _ (pcells (pf i) (pt i)) H1.out.1 (by kernel_rfl) info_P H1.out.2 rfl rfl ?_) | (refine wpList_load_mid rfl 42 (.tmp 11) rfl gx ox rfl (pcells (pf i) (pt i)) _ HR.out Tryz.underlying42 rfl (by rw [info_P, H1.out.1]) ?_) | (refine wpList_load_mid rfl 42 (.tmp 6) rfl wr.heap.size 0 rfl (pcells (pf i) (pt i)) _ HX.out.range Tryz.underlying42 rfl (by rw [info_P, H1.out.1]) ?_))
        refine (HC.out _ HBA.out).mono ?_
        rintro e w1 ⟨rfl, hb⟩
        have HB1 := Lib.hid (HBA.out.trans (hb.mono HBA.out.size))
        clear hb
        go_wp2_with fail
        go_ret
        refine ⟨?_, HB1.out⟩
        rw [HN.out]
        rfl
    · have q1 : decide ((i : Int) < (n : Int)) = false := decide_eq_false (by omega)
      have q1n : decide (i < n) = false := decide_eq_false hlt
      obtain rfl : i = n := by omega
      go_wp2_with fail
      go_ret
      refine ⟨?_, HB.out⟩
      rw [HA.out]
      rfl
end Go.Proofs.YtgmnojnalkhepaaGreatDoor

/-
  The document's counts: 'fewCon'.
-/
namespace Go.Proofs.YtgmnojnalkhepaaGreatDoor
open Go.RowKit
set_option linter.unusedVariables false
set_option linter.unusedSimpArgs false
set_option maxRecDepth 100000

/-- what is left after k rounds -/
def fewN (g : Nat → Int → Int) : Nat → Int → Int
  | 0, x => x
  | k + 1, x => if 0 ≤ fewN g k x then g k (fewN g k x) else fewN g k x
def CT.few : CT → Int → Int
  | .nil, x => x
  | .mk _ _ _ _ _ _ n _ ch, x => fewN (fun i y => (ch i).few y) n (x - 1)
theorem fewN_bounds {g : Nat → Int → Int} {n : Nat} (hg : ∀ i, i < n → ∀ y, 0 ≤ y → -1 ≤ g i y ∧ g i y ≤ y) : ∀ k, k ≤ n → ∀ x, min x (-1) ≤ fewN g k x ∧ fewN g k x ≤ x
  | 0, _, x => by simp only [fewN]; omega
  | k + 1, hk, x => by
    have h := fewN_bounds hg k (by omega) x
    simp only [fewN]
    split
    · have := hg k (by omega) _ (by assumption)
      omega
    · exact h
theorem fewN_stop {g : Nat → Int → Int} {k : Nat} {x : Int} (h : fewN g k x < 0) : ∀ n, k ≤ n → fewN g n x = fewN g k x
  | 0, hn => by obtain rfl : k = 0 := by omega
                rfl
  | n + 1, hn => by
    rcases Nat.lt_or_ge k (n + 1) with h1 | h1
    · have := fewN_stop h n (by omega)
      simp only [fewN]
      rw [if_neg (by omega), this]
    · obtain rfl : k = n + 1 := by omega
      rfl
theorem CT.few_bounds : ∀ (c : CT) (x : Int), min (x - 1) (-1) ≤ c.few x ∧ c.few x ≤ x
  | .nil, x => by simp only [CT.few]; omega
  | .mk _ _ _ _ _ _ n _ ch, x => by
    have := fewN_bounds (g := fun i y => (ch i).few y) (n := n) (fun i _ y hy => by have h2 := CT.few_bounds (ch i) y; show -1 ≤ (ch i).few y ∧ (ch i).few y ≤ y; omega) n (Nat.le_refl _) (x - 1)
    simp only [CT.few]
    omega
def RelFC (w : World) (B : Nat) (n : Nat) (ch : Nat → CT) (x : Int) (g : Nat) (cs : Array Value) (xv iv : Value) (wr : World) : Prop :=
  ∃ (i : Nat), i ≤ n ∧ iv = .int .i64 (i : Nat) ∧ xv = .int .i64 (fewN (fun i y => (ch i).few y) i x) ∧ Bx wr g cs 34 ∧ Below w.heap.size w wr
set_option maxHeartbeats 4000000 in
theorem fewCon_ok (B : Nat) : ∀ (c : CT) (x : Int) (w : World), CIn B w c → B ≤ w.heap.size → -4611686018427387904 ≤ x → x ≤ 4611686018427387904 →
    Calls Tryz.prog 60 #[c.v, .int .i64 x] w fun e w' => e = .returned (.int .i64 (c.few x)) ∧ Below w.heap.size w w'
  | .nil, x, w, h, _, _, _ => h.elim
  | .mk op lo hi0 low high a n cap ch, x, w, hin, hB, hx1, hx2 => by
    obtain ⟨hI, hrow, hch⟩ := hin
    have HROW := Lib.hid hrow
    have HCH := Lib.hid hch
    have hn : n ≤ 9223372036854775807 := by have := hrow.1; have := hrow.2.1; omega
    have HI := Lib.hid hI
    have HBB := Lib.hid hB
    have hx3 : IntKind.i64.wrap (x - 1) = x - 1 := wrap_ok (by unfold I64; omega)
    obtain ⟨y, hy⟩ : ∃ y, x - 1 = y := ⟨_, rfl⟩
    have HY := Lib.hid hy
    have HBD := Lib.hid (fewN_bounds (g := fun i y => (ch i).few y) (n := n) (fun i _ y hy => by have h2 := CT.few_bounds (ch i) y; show -1 ≤ (ch i).few y ∧ (ch i).few y ≤ y; omega))
    clear hrow hch hI hB
    show Calls _ _ #[.agg #[.int .i64 op, .int .i64 lo, .int .i64 hi0, .bool low, .bool high, .slice a n cap], .int .i64 x] w _
    have hb0 : Below w.heap.size w (w.alloc (.cells #[.int .i64 op, .int .i64 lo, .int .i64 hi0, .bool low, .bool high, .slice a n cap] 34)) := (Below.refl _ _).alloc (Nat.le_refl _) _
    have hbx := Bx.new w #[.int .i64 op, .int .i64 lo, .int .i64 hi0, .bool low, .bool high, .slice a n cap] 34
    have HB0 := Lib.hid hb0
    have HX0 := Lib.hid hbx
    clear hb0 hbx
    go_enter Tryz.func60, Tryz.ntmps60
    go_wp2_with fail
    generalize w.alloc (.cells #[.int .i64 op, .int .i64 lo, .int .i64 hi0, .bool low, .bool high, .slice a n cap] 34) = W at *
    obtain ⟨g, hg⟩ : ∃ g, w.heap.size = g := ⟨_, rfl⟩
    have HG := Lib.hid hg
    rw [hg] at HX0 ⊢
    clear hg
    go_loopw [1, 5] (fun xv iv wr => RelFC w B n ch y g #[.int .i64 op, .int .i64 lo, .int .i64 hi0, .bool low, .bool high, .slice a n cap] xv iv wr) (fun _ iv _ => n - (Lib.intOf iv).toNat)
    case atStart => exact ⟨0, Nat.zero_le _, rfl, rfl, HX0.out, HB0.out⟩
    case round =>
      obtain ⟨i, hi, rfl, rfl, hbx, hbel⟩ := hrel
      have HB := Lib.hid hbel
      have HX := Lib.hid hbx
      have c5 := hbx.cell 5 rfl
      obtain ⟨z, hz⟩ : ∃ z, fewN (fun i y => (ch i).few y) i y = z := ⟨_, rfl⟩
      rw [hz]
      have HZ := Lib.hid hz
      have hzb := HBD.out i hi y
      rw [hz] at hzb
      have hgw := HG.out
      have hsz := hbel.size
      clear hbel hbx hz
      by_cases hlt : i < n
      · have q1 : decide ((i : Int) < (n : Int)) = true := decide_eq_true (by omega)
        have q1n : decide (i < n) = true := decide_eq_true hlt
        by_cases h0 : 0 ≤ z
        · have q2 : decide ((0 : Int) ≤ z) = true := decide_eq_true h0
          obtain ⟨gx, ox, op', lo', hi', low', high', a', n', cap', ch', hchi, hix, hgx, hrd⟩ := cRow_read HROW.out hlt (HCH.out i hlt)
          obtain ⟨k0, k1, k2, k3, k4, k5⟩ := hrd wr (HB.out.block gx (by have := HBB.out; omega))
          have HC := Lib.hid (fewCon_ok B (ch i) z wr ((HCH.out i hlt).below (HB.out.mono HBB.out) (Nat.le_refl _)) (by have := HBB.out; omega) (by omega) (by omega))
          obtain ⟨zn, hzn⟩ : ∃ zn, (ch i).few z = zn := ⟨_, rfl⟩
          rw [hzn] at HC
          rw [hchi] at HC
          simp only [CT.v, CT.cells] at HC
          have HN := Lib.hid (show fewN (fun i y => (ch i).few y) (i + 1) y = zn by simp only [fewN]; rw [HZ.out, if_pos h0, hzn])
          clear hzn hchi hrd
          have q3 : IntKind.i64.wrap ((i : Int) + 1) = ((i + 1 : Nat) : Int) := wrap_succ hlt hn
          go_wp2_with fail
          refine HC.out.mono ?_
          rintro e w1 ⟨rfl, hb⟩
          have HX1 := Lib.hid (HX.out.below hb HX.out.lt)
          have HB1 := Lib.hid (HB.out.trans (hb.mono hsz))
          clear hb
          go_wp2_with fail
          go_roundw
          case rel => exact ⟨i + 1, hlt, rfl, by rw [HN.out], HX1.out, HB1.out⟩
          case measure => simp only [Lib.intOf]; omega
        · have q2 : decide ((0 : Int) ≤ z) = false := decide_eq_false h0
          have HN := Lib.hid ((fewN_stop (g := fun i y => (ch i).few y) (k := i) (x := y) (by rw [HZ.out]; omega) n hi).trans HZ.out)
          go_wp2_with fail
          go_ret
          refine ⟨?_, by first | exact HB.out | (rw [← HG.out]; exact HB.out)⟩
          rw [show (CT.mk op lo hi0 low high a n cap ch).few x = z from (by show fewN _ n (x - 1) = z; rw [HY.out]; exact HN.out)]
          rfl
      · have q1 : decide ((i : Int) < (n : Int)) = false := decide_eq_false (by omega)
        have q1n : decide (i < n) = false := decide_eq_false hlt
        obtain rfl : i = n := by omega
        go_wp2_with fail
        go_ret
        refine ⟨?_, by first | exact HB.out | (rw [← HG.out]; exact HB.out)⟩
        rw [show (CT.mk op lo hi0 low high a i cap ch).few x = z from (by show fewN _ i (x - 1) = z; rw [HY.out]; exact HZ.out)]
        rfl
end Go.Proofs.YtgmnojnalkhepaaGreatDoor

/-
  Package shape: which fields of a constraint are set.
-/
namespace Go.Proofs.YtgmnojnalkhepaaGreatDoor
open Go.RowKit
set_option linter.unusedVariables false
set_option linter.unusedSimpArgs false
set_option maxRecDepth 100000

set_option maxHeartbeats 4000000 in
theorem setInCon_ok (op lo hi : Int) (low high : Bool) (a : Option Addr) (n cap : Nat) (w : World) (b1 b2 b5 : Bool) (h1 : b1 = decide (lo ≠ 0)) (h2 : b2 = decide (hi ≠ 0)) (h5 : b5 = decide (0 < n)) :
    Calls Tryz.prog 100 #[.agg #[.int .i64 op, .int .i64 lo, .int .i64 hi, .bool low, .bool high, .slice a n cap]] w fun e w' => e = .returned (.agg #[.bool b1, .bool b2, .bool low, .bool high, .bool b5]) ∧ Below w.heap.size w w' := by
  have q1 : (lo != 0) = b1 := by subst h1; simp [bne]; rfl
  have q2 : (hi != 0) = b2 := by subst h2; simp [bne]; rfl
  have q5 : decide ((0 : Int) < (n : Int)) = b5 := by subst h5; simp
  have q5n : decide (0 < n) = b5 := by subst h5; rfl
  clear h1 h2 h5
  have HB := Lib.hid (Below.refl w.heap.size w)
  go_enter Tryz.func100, Tryz.ntmps100
  go_wp2_with fail
  refine bodyPost_ret (v := .agg #[.bool b1, .bool b2, .bool low, .bool high, .bool b5]) ?_ rfl ⟨rfl, ((Below.refl _ _).alloc (Nat.le_refl _) _).alloc (by simp) _⟩
  simp [results, Tryz.f100, go_sem]
/-- are the fields of a constraint as its Op asks? -/
def cFlds (op lo hi : Int) (low high : Bool) (n : Nat) : Bool :=
  if op = 0 then decide (lo = 0) && (decide (hi = 0) && (!low && (!high && decide (n = 0))))
  else if op = 1 then decide (n = 0) && ((!low || decide (lo = 0)) && ((!high || decide (hi = 0)) && (decide (lo ≠ -9223372036854775808) && decide (hi ≠ -9223372036854775808))))
  else if op = 2 ∨ op = 3 then decide (lo = 0) && (decide (hi = 0) && (!low && (!high && decide (2 ≤ n))))
  else if op = 4 then decide (lo = 0) && (decide (hi = 0) && (!low && (!high && decide (n = 2))))
  else false
set_option maxHeartbeats 4000000 in
theorem hasCon_ok (op lo hi : Int) (low high : Bool) (a : Option Addr) (n cap : Nat) (w : World) :
    Calls Tryz.prog 101 #[.agg #[.int .i64 op, .int .i64 lo, .int .i64 hi, .bool low, .bool high, .slice a n cap]] w fun e w' => e = .returned (.bool (cFlds op lo hi low high n)) ∧ Below w.heap.size w w' := by
  obtain ⟨b1, h1⟩ : ∃ b1, b1 = decide (lo ≠ 0) := ⟨_, rfl⟩
  obtain ⟨b2, h2⟩ : ∃ b2, b2 = decide (hi ≠ 0) := ⟨_, rfl⟩
  obtain ⟨b5, h5⟩ : ∃ b5, b5 = decide (0 < n) := ⟨_, rfl⟩
  have HS := Lib.hid (fun w => setInCon_ok op lo hi low high a n cap w b1 b2 b5 h1 h2 h5)
  have HB := Lib.hid (Below.refl w.heap.size w)
  have H1 := Lib.hid h1
  have H2 := Lib.hid h2
  have H5 := Lib.hid h5
  clear h1 h2 h5
  by_cases o0 : op = 0
  · subst o0
    obtain ⟨r, hr⟩ : ∃ r, cFlds 0 lo hi low high n = r := ⟨_, rfl⟩
    have HR := Lib.hid hr
    rw [hr]
    clear hr
    have hbx := Bx.new w #[.int .i64 0, .int .i64 lo, .int .i64 hi, .bool low, .bool high, .slice a n cap] 34
    have HX := Lib.hid hbx
    clear hbx
    go_enter Tryz.func101, Tryz.ntmps101
    go_wp2_with fail
    refine (HS.out _).mono ?_
    rintro e w1 ⟨rfl, hb⟩
    have HB1 := Lib.hid (((Below.refl w.heap.size w).alloc (Nat.le_refl _) _).trans (hb.mono (by simp)))
    have hx1 := HX.out.below hb HX.out.lt
    have c0 : ∀ o, (w1.alloc o).cell? ⟨w.heap.size, 0, none⟩ = some (.int .i64 0) := fun o => (hx1.alloc o).cell 0 rfl
    have c1 : ∀ o, (w1.alloc o).cell? ⟨w.heap.size, 1, none⟩ = some (.int .i64 lo) := fun o => (hx1.alloc o).cell 1 rfl
    have c2 : ∀ o, (w1.alloc o).cell? ⟨w.heap.size, 2, none⟩ = some (.int .i64 hi) := fun o => (hx1.alloc o).cell 2 rfl
    have c3 : ∀ o, (w1.alloc o).cell? ⟨w.heap.size, 3, none⟩ = some (.bool low) := fun o => (hx1.alloc o).cell 3 rfl
    have c4 : ∀ o, (w1.alloc o).cell? ⟨w.heap.size, 4, none⟩ = some (.bool high) := fun o => (hx1.alloc o).cell 4 rfl
    have c5 : ∀ o, (w1.alloc o).cell? ⟨w.heap.size, 5, none⟩ = some (.slice a n cap) := fun o => (hx1.alloc o).cell 5 rfl
    clear hb hx1 HX HS HB
    go_wp2_with fail
    all_goals go_ret
    all_goals refine ⟨?_, HB1.out.alloc HB1.out.size _⟩
    all_goals (have h1 := H1.out; have h2 := H2.out; have h5 := H5.out; have hr := HR.out; clear H1 H2 H5 HR HB1 c0 c1 c2 c3 c4 c5; unfold cFlds at hr; simp_all; try (first | (rw [← hr]; simp; omega) | omega))
  by_cases o1 : op = 1
  · subst o1
    obtain ⟨r, hr⟩ : ∃ r, cFlds 1 lo hi low high n = r := ⟨_, rfl⟩
    have HR := Lib.hid hr
    rw [hr]
    clear hr
    have hbx := Bx.new w #[.int .i64 1, .int .i64 lo, .int .i64 hi, .bool low, .bool high, .slice a n cap] 34
    have HX := Lib.hid hbx
    clear hbx
    go_enter Tryz.func101, Tryz.ntmps101
    go_wp2_with fail
    refine (HS.out _).mono ?_
    rintro e w1 ⟨rfl, hb⟩
    have HB1 := Lib.hid (((Below.refl w.heap.size w).alloc (Nat.le_refl _) _).trans (hb.mono (by simp)))
    have hx1 := HX.out.below hb HX.out.lt
    have c0 : ∀ o, (w1.alloc o).cell? ⟨w.heap.size, 0, none⟩ = some (.int .i64 1) := fun o => (hx1.alloc o).cell 0 rfl
    have c1 : ∀ o, (w1.alloc o).cell? ⟨w.heap.size, 1, none⟩ = some (.int .i64 lo) := fun o => (hx1.alloc o).cell 1 rfl
    have c2 : ∀ o, (w1.alloc o).cell? ⟨w.heap.size, 2, none⟩ = some (.int .i64 hi) := fun o => (hx1.alloc o).cell 2 rfl
    have c3 : ∀ o, (w1.alloc o).cell? ⟨w.heap.size, 3, none⟩ = some (.bool low) := fun o => (hx1.alloc o).cell 3 rfl
    have c4 : ∀ o, (w1.alloc o).cell? ⟨w.heap.size, 4, none⟩ = some (.bool high) := fun o => (hx1.alloc o).cell 4 rfl
    have c5 : ∀ o, (w1.alloc o).cell? ⟨w.heap.size, 5, none⟩ = some (.slice a n cap) := fun o => (hx1.alloc o).cell 5 rfl
    clear hb hx1 HX HS HB
    have q1 : (lo != -9223372036854775808) = decide (lo ≠ -9223372036854775808) := by simp [bne]; rfl
    have q2 : (hi != -9223372036854775808) = decide (hi ≠ -9223372036854775808) := by simp [bne]; rfl
    obtain ⟨m1, hm1⟩ : ∃ m1, decide (lo ≠ -9223372036854775808) = m1 := ⟨_, rfl⟩
    obtain ⟨m2, hm2⟩ : ∃ m2, decide (hi ≠ -9223372036854775808) = m2 := ⟨_, rfl⟩
    rw [hm1] at q1
    rw [hm2] at q2
    have HM1 := Lib.hid hm1
    have HM2 := Lib.hid hm2
    clear hm1 hm2
    go_wp2_with fail
    all_goals go_ret
    all_goals refine ⟨?_, HB1.out.alloc HB1.out.size _⟩
    all_goals (have h1 := H1.out; have h2 := H2.out; have h5 := H5.out; have hr := HR.out; have hm1 := HM1.out; have hm2 := HM2.out; clear HM1 HM2; clear H1 H2 H5 HR HB1 c0 c1 c2 c3 c4 c5; unfold cFlds at hr; simp_all; try (first | (rw [← hr]; simp; omega) | omega))
  by_cases o2 : op = 2
  · subst o2
    obtain ⟨r, hr⟩ : ∃ r, cFlds 2 lo hi low high n = r := ⟨_, rfl⟩
    have HR := Lib.hid hr
    rw [hr]
    clear hr
    have hbx := Bx.new w #[.int .i64 2, .int .i64 lo, .int .i64 hi, .bool low, .bool high, .slice a n cap] 34
    have HX := Lib.hid hbx
    clear hbx
    go_enter Tryz.func101, Tryz.ntmps101
    go_wp2_with fail
    refine (HS.out _).mono ?_
    rintro e w1 ⟨rfl, hb⟩
    have HB1 := Lib.hid (((Below.refl w.heap.size w).alloc (Nat.le_refl _) _).trans (hb.mono (by simp)))
    have hx1 := HX.out.below hb HX.out.lt
    have c0 : ∀ o, (w1.alloc o).cell? ⟨w.heap.size, 0, none⟩ = some (.int .i64 2) := fun o => (hx1.alloc o).cell 0 rfl
    have c1 : ∀ o, (w1.alloc o).cell? ⟨w.heap.size, 1, none⟩ = some (.int .i64 lo) := fun o => (hx1.alloc o).cell 1 rfl
    have c2 : ∀ o, (w1.alloc o).cell? ⟨w.heap.size, 2, none⟩ = some (.int .i64 hi) := fun o => (hx1.alloc o).cell 2 rfl
    have c3 : ∀ o, (w1.alloc o).cell? ⟨w.heap.size, 3, none⟩ = some (.bool low) := fun o => (hx1.alloc o).cell 3 rfl
    have c4 : ∀ o, (w1.alloc o).cell? ⟨w.heap.size, 4, none⟩ = some (.bool high) := fun o => (hx1.alloc o).cell 4 rfl
    have c5 : ∀ o, (w1.alloc o).cell? ⟨w.heap.size, 5, none⟩ = some (.slice a n cap) := fun o => (hx1.alloc o).cell 5 rfl
    clear hb hx1 HX HS HB
    obtain ⟨m, hm⟩ : ∃ m, decide (2 ≤ n) = m := ⟨_, rfl⟩
    have q1n : decide (2 ≤ n) = m := hm
    have q1 : decide ((2 : Int) ≤ (n : Int)) = m := by rw [← hm]; exact decide_eq_decide.2 (by omega)
    have HM := Lib.hid hm
    clear hm
    go_wp2_with fail
    all_goals go_ret
    all_goals refine ⟨?_, HB1.out.alloc HB1.out.size _⟩
    all_goals (have h1 := H1.out; have h2 := H2.out; have h5 := H5.out; have hr := HR.out; have hm := HM.out; clear HM; clear H1 H2 H5 HR HB1 c0 c1 c2 c3 c4 c5; unfold cFlds at hr; simp_all; try (first | (rw [← hr]; simp; omega) | omega))
  by_cases o3 : op = 3
  · subst o3
    obtain ⟨r, hr⟩ : ∃ r, cFlds 3 lo hi low high n = r := ⟨_, rfl⟩
    have HR := Lib.hid hr
    rw [hr]
    clear hr
    have hbx := Bx.new w #[.int .i64 3, .int .i64 lo, .int .i64 hi, .bool low, .bool high, .slice a n cap] 34
    have HX := Lib.hid hbx
    clear hbx
    go_enter Tryz.func101, Tryz.ntmps101
    go_wp2_with fail
    refine (HS.out _).mono ?_
    rintro e w1 ⟨rfl, hb⟩
    have HB1 := Lib.hid (((Below.refl w.heap.size w).alloc (Nat.le_refl _) _).trans (hb.mono (by simp)))
    have hx1 := HX.out.below hb HX.out.lt
    have c0 : ∀ o, (w1.alloc o).cell? ⟨w.heap.size, 0, none⟩ = some (.int .i64 3) := fun o => (hx1.alloc o).cell 0 rfl
    have c1 : ∀ o, (w1.alloc o).cell? ⟨w.heap.size, 1, none⟩ = some (.int .i64 lo) := fun o => (hx1.alloc o).cell 1 rfl
    have c2 : ∀ o, (w1.alloc o).cell? ⟨w.heap.size, 2, none⟩ = some (.int .i64 hi) := fun o => (hx1.alloc o).cell 2 rfl
    have c3 : ∀ o, (w1.alloc o).cell? ⟨w.heap.size, 3, none⟩ = some (.bool low) := fun o => (hx1.alloc o).cell 3 rfl
    have c4 : ∀ o, (w1.alloc o).cell? ⟨w.heap.size, 4, none⟩ = some (.bool high) := fun o => (hx1.alloc o).cell 4 rfl
    have c5 : ∀ o, (w1.alloc o).cell? ⟨w.heap.size, 5, none⟩ = some (.slice a n cap) := fun o => (hx1.alloc o).cell 5 rfl
    clear hb hx1 HX HS HB
    obtain ⟨m, hm⟩ : ∃ m, decide (2 ≤ n) = m := ⟨_, rfl⟩
    have q1n : decide (2 ≤ n) = m := hm
    have q1 : decide ((2 : Int) ≤ (n : Int)) = m := by rw [← hm]; exact decide_eq_decide.2 (by omega)
    have HM := Lib.hid hm
    clear hm
    go_wp2_with fail
    all_goals go_ret
    all_goals refine ⟨?_, HB1.out.alloc HB1.out.size _⟩
    all_goals (have h1 := H1.out; have h2 := H2.out; have h5 := H5.out; have hr := HR.out; have hm := HM.out; clear HM; clear H1 H2 H5 HR HB1 c0 c1 c2 c3 c4 c5; unfold cFlds at hr; simp_all; try (first | (rw [← hr]; simp; omega) | omega))
  by_cases o4 : op = 4
  · subst o4
    obtain ⟨r, hr⟩ : ∃ r, cFlds 4 lo hi low high n = r := ⟨_, rfl⟩
    have HR := Lib.hid hr
    rw [hr]
    clear hr
    have hbx := Bx.new w #[.int .i64 4, .int .i64 lo, .int .i64 hi, .bool low, .bool high, .slice a n cap] 34
    have HX := Lib.hid hbx
    clear hbx
    go_enter Tryz.func101, Tryz.ntmps101
    go_wp2_with fail
    refine (HS.out _).mono ?_
    rintro e w1 ⟨rfl, hb⟩
    have HB1 := Lib.hid (((Below.refl w.heap.size w).alloc (Nat.le_refl _) _).trans (hb.mono (by simp)))
    have hx1 := HX.out.below hb HX.out.lt
    have c0 : ∀ o, (w1.alloc o).cell? ⟨w.heap.size, 0, none⟩ = some (.int .i64 4) := fun o => (hx1.alloc o).cell 0 rfl
    have c1 : ∀ o, (w1.alloc o).cell? ⟨w.heap.size, 1, none⟩ = some (.int .i64 lo) := fun o => (hx1.alloc o).cell 1 rfl
    have c2 : ∀ o, (w1.alloc o).cell? ⟨w.heap.size, 2, none⟩ = some (.int .i64 hi) := fun o => (hx1.alloc o).cell 2 rfl
    have c3 : ∀ o, (w1.alloc o).cell? ⟨w.heap.size, 3, none⟩ = some (.bool low) := fun o => (hx1.alloc o).cell 3 rfl
    have c4 : ∀ o, (w1.alloc o).cell? ⟨w.heap.size, 4, none⟩ = some (.bool high) := fun o => (hx1.alloc o).cell 4 rfl
    have c5 : ∀ o, (w1.alloc o).cell? ⟨w.heap.size, 5, none⟩ = some (.slice a n cap) := fun o => (hx1.alloc o).cell 5 rfl
    clear hb hx1 HX HS HB
    obtain ⟨m, hm⟩ : ∃ m, decide (n = 2) = m := ⟨_, rfl⟩
    have q1 : ((n : Int) == 2) = m := by rw [← hm]; exact (by rw [Bool.eq_iff_iff]; simp; omega)
    have HM := Lib.hid hm
    clear hm
    go_wp2_with fail
    all_goals go_ret
    all_goals refine ⟨?_, HB1.out.alloc HB1.out.size _⟩
    all_goals (have h1 := H1.out; have h2 := H2.out; have h5 := H5.out; have hr := HR.out; have hm := HM.out; clear HM; clear H1 H2 H5 HR HB1 c0 c1 c2 c3 c4 c5; unfold cFlds at hr; simp_all; try (first | (rw [← hr]; simp; omega) | omega))
  have q0 : (op == 0) = false := by simpa using o0
  have q1 : (op == 1) = false := by simpa using o1
  have q2 : (op == 2) = false := by simpa using o2
  have q3 : (op == 3) = false := by simpa using o3
  have q4 : (op == 4) = false := by simpa using o4
  have HO := Lib.hid (show cFlds op lo hi low high n = false by unfold cFlds; simp [o0, o1, o2, o3, o4])
  clear o0 o1 o2 o3 o4
  obtain ⟨r, hr⟩ : ∃ r, cFlds op lo hi low high n = r := ⟨_, rfl⟩
  have HR := Lib.hid hr
  rw [hr]
  clear hr
  have hbx := Bx.new w #[.int .i64 op, .int .i64 lo, .int .i64 hi, .bool low, .bool high, .slice a n cap] 34
  have HX := Lib.hid hbx
  clear hbx
  go_enter Tryz.func101, Tryz.ntmps101
  go_wp2_with fail
  refine (HS.out _).mono ?_
  rintro e w1 ⟨rfl, hb⟩
  have HB1 := Lib.hid (((Below.refl w.heap.size w).alloc (Nat.le_refl _) _).trans (hb.mono (by simp)))
  have hx1 := HX.out.below hb HX.out.lt
  have c0 : ∀ o, (w1.alloc o).cell? ⟨w.heap.size, 0, none⟩ = some (.int .i64 op) := fun o => (hx1.alloc o).cell 0 rfl
  have c1 : ∀ o, (w1.alloc o).cell? ⟨w.heap.size, 1, none⟩ = some (.int .i64 lo) := fun o => (hx1.alloc o).cell 1 rfl
  have c2 : ∀ o, (w1.alloc o).cell? ⟨w.heap.size, 2, none⟩ = some (.int .i64 hi) := fun o => (hx1.alloc o).cell 2 rfl
  have c3 : ∀ o, (w1.alloc o).cell? ⟨w.heap.size, 3, none⟩ = some (.bool low) := fun o => (hx1.alloc o).cell 3 rfl
  have c4 : ∀ o, (w1.alloc o).cell? ⟨w.heap.size, 4, none⟩ = some (.bool high) := fun o => (hx1.alloc o).cell 4 rfl
  have c5 : ∀ o, (w1.alloc o).cell? ⟨w.heap.size, 5, none⟩ = some (.slice a n cap) := fun o => (hx1.alloc o).cell 5 rfl
  clear hb hx1 HX HS HB
  go_wp2_with fail
  go_ret
  refine ⟨?_, HB1.out.alloc HB1.out.size _⟩
  rw [← HR.out, HO.out]
  rfl
end Go.Proofs.YtgmnojnalkhepaaGreatDoor

/-
  Package shape: 'isCon'.
-/
namespace Go.Proofs.YtgmnojnalkhepaaGreatDoor
open Go.RowKit
set_option linter.unusedVariables false
set_option linter.unusedSimpArgs false
set_option maxRecDepth 100000

/-- is a constraint well-formed, and at most so deep? -/
def CT.ok : CT → Nat → Bool
  | .nil, _ => false
  | .mk op lo hi low high _ n _ ch, d => decide (d ≠ 0) && (cFlds op lo hi low high n && allN (fun i => decide ((ch i).op ≠ 0) && (ch i).ok (d - 1)) n)
theorem CIn.open {B : Nat} {W : World} {c : CT} (h : CIn B W c) : ∃ op lo hi low high a n cap ch, c = .mk op lo hi low high a n cap ch := by
  cases c with
  | nil => exact h.elim
  | mk op lo hi low high a n cap ch => exact ⟨op, lo, hi, low, high, a, n, cap, ch, rfl⟩
set_option maxHeartbeats 4000000 in
theorem isCon1_ok (B : Nat) (c : CT) (d g : Nat) (w : World) (hc : CIn B w c) (hd : 0 < d) (hd2 : d ≤ 1000) (hB : B ≤ w.heap.size) (hg : w.cell? ⟨g, 0, none⟩ = some (.int .i64 (d : Nat))) (hgl : g < w.heap.size)
    (hrec : ∀ w', Below w.heap.size w w' → Calls Tryz.prog 82 #[c.v, .int .i64 ((d - 1 : Nat) : Int)] w' fun e w'' => e = .returned (.bool (c.ok (d - 1))) ∧ Below w'.heap.size w' w'') :
    Calls Tryz.prog 103 #[c.v, .pointer (some ⟨g, 0, none⟩)] w fun e w' => e = .returned (.bool (decide (c.op ≠ 0) && c.ok (d - 1))) ∧ Below w.heap.size w w' := by
  obtain ⟨op, lo, hi, low, high, a, n, cap, ch, rfl⟩ := hc.open
  have HR := Lib.hid hrec
  obtain ⟨r, hr⟩ : ∃ r, (CT.mk op lo hi low high a n cap ch).ok (d - 1) = r := ⟨_, rfl⟩
  rw [hr] at HR ⊢
  show Calls _ _ _ _ fun e w' => e = .returned (.bool (decide (op ≠ 0) && r)) ∧ _
  simp only [CT.v, CT.cells] at HR
  have hgo : ∀ o, (w.alloc o).cell? ⟨g, 0, none⟩ = some (.int .i64 (d : Nat)) := fun o => (World.cell?_of_block (w := w) (Below.heap_alloc w o g hgl)).trans hg
  have q3 : IntKind.i64.wrap ((d : Int) - 1) = ((d - 1 : Nat) : Int) := (wrap_ok (x := (d : Int) - 1) (by unfold I64; omega)).trans (by omega)
  have HB0 := Lib.hid ((Below.refl w.heap.size w).alloc (Nat.le_refl _) (.cells #[.int .i64 op, .int .i64 lo, .int .i64 hi, .bool low, .bool high, .slice a n cap] 34))
  clear hrec hr hc hg
  show Calls _ _ #[.agg #[.int .i64 op, .int .i64 lo, .int .i64 hi, .bool low, .bool high, .slice a n cap], _] w _
  by_cases h0 : op = 0
  · subst h0
    go_enter Tryz.func103, Tryz.ntmps103
    go_wp2_with fail
    go_ret
    exact ⟨rfl, HB0.out⟩
  · have q1 : (op != 0) = true := by simpa [bne] using h0
    have HD := Lib.hid (show (decide (op ≠ 0) && r) = r by simp [h0])
    go_enter Tryz.func103, Tryz.ntmps103
    go_wp2_with fail
    refine (HR.out _ HB0.out).mono ?_
    rintro e w1 ⟨rfl, hb⟩
    have HB1 := Lib.hid (HB0.out.trans (hb.mono HB0.out.size))
    clear hb
    go_wp2_with fail
    go_ret
    refine ⟨?_, HB1.out⟩
    rw [HD.out]
    rfl
theorem enters_isCon1 : Enters Tryz.prog 103 := enters_of Tryz.func103 (by kernel_rfl) rfl
set_option maxHeartbeats 4000000 in
theorem isCon_ok : ∀ (c : CT) (B d : Nat) (w : World), CIn B w c → B ≤ w.heap.size → d ≤ 1000 →
    Calls Tryz.prog 82 #[c.v, .int .i64 (d : Nat)] w fun e w' => e = .returned (.bool (c.ok d)) ∧ Below w.heap.size w w'
  | .nil, B, d, w, h, _, _ => h.elim
  | .mk op lo hi low high a n cap ch, B, d, w, hin, hB, hd => by
    obtain ⟨hI, hrow, hch⟩ := hin
    have HREC := Lib.hid (fun i (hi : i < n) (w' : World) (hb : Below w.heap.size w w') => isCon_ok (ch i) w.heap.size (d - 1) w' ((hch i hi).below hb hB) hb.size (by omega))
    have hb1 : Below w.heap.size w ((w.alloc (.cells #[.int .i64 op, .int .i64 lo, .int .i64 hi, .bool low, .bool high, .slice a n cap] 34)).alloc (.cells #[.int .i64 (d : Nat)] 3)) := ((Below.refl _ _).alloc (Nat.le_refl _) _).alloc (by simp) _
    have HB1 := Lib.hid hb1
    have HX := Lib.hid (((Bx.new w #[.int .i64 op, .int .i64 lo, .int .i64 hi, .bool low, .bool high, .slice a n cap] 34).alloc (.cells #[.int .i64 (d : Nat)] 3)))
    have HY := Lib.hid (Bx.new (w.alloc (.cells #[.int .i64 op, .int .i64 lo, .int .i64 hi, .bool low, .bool high, .slice a n cap] 34)) #[.int .i64 (d : Nat)] 3)
    have HF := Lib.hid (fun w => hasCon_ok op lo hi low high a n cap w)
    have HROW := Lib.hid hrow
    have HCH := Lib.hid hch
    have HBB := Lib.hid hB
    obtain ⟨f, hf⟩ : ∃ f, cFlds op lo hi low high n = f := ⟨_, rfl⟩
    have HRES := Lib.hid (show (CT.mk op lo hi low high a n cap ch).ok d = (decide (d ≠ 0) && (f && allN (fun i => decide ((ch i).op ≠ 0) && (ch i).ok (d - 1)) n)) by rw [CT.ok, hf])
    rw [hf] at HF
    clear hf hI hrow hch hB hb1
    obtain ⟨res, hres⟩ : ∃ res, (CT.mk op lo hi low high a n cap ch).ok d = res := ⟨_, rfl⟩
    rw [hres] at HRES ⊢
    clear hres
    show Calls _ _ #[.agg #[.int .i64 op, .int .i64 lo, .int .i64 hi, .bool low, .bool high, .slice a n cap], .int .i64 (d : Nat)] w _
    by_cases h0 : d = 0
    · subst h0
      obtain rfl : res = false := by rw [HRES.out]; rfl
      go_enter Tryz.func82, Tryz.ntmps82
      go_wp2_with fail
      go_ret
      exact ⟨rfl, HB1.out⟩
    · have q1 : ((d : Int) == 0) = false := by simpa using h0
      cases f with
      | false =>
        obtain rfl : res = false := by rw [HRES.out]; simp
        go_enter Tryz.func82, Tryz.ntmps82
        go_wp2_with fail
        refine (HF.out _).mono ?_
        rintro e w1 ⟨rfl, hb⟩
        have HB2 := Lib.hid (HB1.out.trans (hb.mono HB1.out.size))
        clear hb
        go_wp2_with fail
        go_ret
        exact ⟨rfl, HB2.out⟩
      | true =>
        have HRES2 := Lib.hid (show allN (fun i => decide ((ch i).op ≠ 0) && (ch i).ok (d - 1)) n = res by rw [HRES.out]; simp [h0])
        go_enter Tryz.func82, Tryz.ntmps82
        go_wp2_with fail
        refine (HF.out _).mono ?_
        rintro e w1 ⟨rfl, hb⟩
        have HB2 := Lib.hid (HB1.out.trans (hb.mono HB1.out.size))
        have hx2 := HX.out.below hb HX.out.lt
        have HY2 := Lib.hid (HY.out.below hb HY.out.lt)
        have hy2 := HY2.out
        have c5 := hx2.cell 5 rfl
        clear hb hx2
        have hg2 : w.heap.size + 1 < w1.heap.size := by simpa using hy2.lt
        have HE := Lib.hid (everyC_ok w.heap.size w1 a n cap ch 103 #[] #[.pointer (some ⟨w.heap.size + 1, 0, none⟩)] (fun i => decide ((ch i).op ≠ 0) && (ch i).ok (d - 1)) enters_isCon1 HB2.out.size (HROW.out.below HB2.out HBB.out) (fun i hi => (HCH.out i hi).below HB2.out HBB.out)
          (fun i hi w' hb' => isCon1_ok w.heap.size (ch i) d (w.heap.size + 1) w' ((HCH.out i hi).below (HB2.out.trans (hb'.mono HB2.out.size)) HBB.out) (by omega) hd (by have := HB2.out.size; have := hb'.size; omega)
            ((Bx.below (g := w.heap.size + 1) (by simpa using hy2) hb' hg2).cell 0 rfl) (by have := hb'.size; omega) (fun w'' hb'' => HREC.out i hi w'' ((HB2.out.trans (hb'.mono HB2.out.size)).trans (hb''.mono (by have := HB2.out.size; have := hb'.size; omega))))))
        rw [HRES2.out] at HE
        clear hy2
        go_wp2_with fail
        refine HE.out.mono ?_
        rintro e w2 ⟨rfl, hb⟩
        have HB3 := Lib.hid (HB2.out.trans (hb.mono HB2.out.size))
        clear hb
        go_wp2_with fail
        go_ret
        exact ⟨rfl, HB3.out⟩
set_option maxHeartbeats 4000000 in
theorem con_ok (c : CT) (B : Nat) (w : World) (hin : CIn B w c) (hB : B ≤ w.heap.size) :
    Calls Tryz.prog 54 #[c.v] w fun e w' => e = .returned (.bool (c.ok 40)) ∧ Below w.heap.size w w' := by
  have HI := Lib.hid (fun (w' : World) (hb : Below w.heap.size w w') => isCon_ok c w.heap.size 40 w' (hin.below hb hB) hb.size (by omega))
  obtain ⟨op, lo, hi, low, high, a, n, cap, ch, rfl⟩ := hin.open
  simp only [CT.v, CT.cells] at HI ⊢
  obtain ⟨res, hres⟩ : ∃ res, (CT.mk op lo hi low high a n cap ch).ok 40 = res := ⟨_, rfl⟩
  rw [hres] at HI ⊢
  clear hin hB hres
  have HB0 := Lib.hid ((Below.refl w.heap.size w).alloc (Nat.le_refl _) (.cells #[.int .i64 op, .int .i64 lo, .int .i64 hi, .bool low, .bool high, .slice a n cap] 34))
  have HB1 := Lib.hid (Below.refl w.heap.size w)
  go_enter Tryz.func54, Tryz.ntmps54
  go_wp2_with fail
  refine (HI.out _ (by first | exact HB0.out | exact HB1.out)).mono ?_
  rintro e w1 ⟨rfl, hb⟩
  have HB2 := Lib.hid ((by first | exact HB0.out | exact HB1.out : Below w.heap.size w _).trans (hb.mono (by simp)))
  clear hb
  go_wp2_with fail
  go_ret
  exact ⟨rfl, HB2.out⟩
end Go.Proofs.YtgmnojnalkhepaaGreatDoor

/-
  Package shape: whether two records of a constraint's fields differ.
-/
namespace Go.Proofs.YtgmnojnalkhepaaGreatDoor
open Go.RowKit
set_option linter.unusedVariables false
set_option linter.unusedSimpArgs false
set_option maxRecDepth 100000

theorem neq_con (b1 b2 b3 b4 b5 : Bool) (w : World) : (binOp BinOp.neq 123 (.agg #[.bool b1, .bool b2, .bool b3, .bool b4, .bool b5]) (.agg #[.bool false, .bool false, .bool false, .bool false, .bool false])).run Tryz.prog w = .ok (.bool (b1 || (b2 || (b3 || (b4 || b5))))) w := by
  cases b1 <;> cases b2 <;> cases b3 <;> cases b4 <;> cases b5 <;> go_simp
end Go.Proofs.YtgmnojnalkhepaaGreatDoor
