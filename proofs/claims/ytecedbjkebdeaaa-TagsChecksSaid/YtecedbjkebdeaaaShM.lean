/-
  Constraints, types and values as they lie in memory: trees with their addresses, what their cells are, and what stays where new blocks come: no walk here.
-/
import Derived.Test.YtecedbjkebdeaaaProg
import Derived.WalkKit
import Derived.Below
import Derived.Lib.Hide
import Derived.KernelRfl
namespace Go.Proofs.Ytecedbjkebdeaaa
open Go.RowKit
set_option linter.unusedVariables false
set_option linter.unusedSimpArgs false
set_option maxRecDepth 100000

def I64 (n : Int) : Prop := -9223372036854775808 ≤ n ∧ n ≤ 9223372036854775807
/-- a row of n elements of k cells each, below block B -/
def RowAt (B : Nat) (W : World) (a : Option Addr) (n cap k : Nat) (cells : Nat → List Value) : Prop :=
  n ≤ cap ∧ cap ≤ 140737488355328 ∧ (a = none → n = 0 ∧ cap = 0) ∧ (0 < n → ∃ g o, a = some ⟨g, o, none⟩ ∧ g < B ∧ ∀ i, i < n → ∀ j u, (cells i)[j]? = some u → W.cell? ⟨g, o + i * k + j, none⟩ = some u)
theorem RowAt.below {B B' : Nat} {W W' : World} {a : Option Addr} {n cap k : Nat} {cells : Nat → List Value} (h : RowAt B W a n cap k cells) (hb : Below B' W W') (hB : B ≤ B') : RowAt B' W' a n cap k cells :=
  ⟨h.1, h.2.1, h.2.2.1, fun hn => by
    obtain ⟨g, o, ha, hg, hc⟩ := h.2.2.2 hn
    exact ⟨g, o, ha, by omega, fun i hi j u hj => by rw [hb.cell (p := ⟨g, o + i * k + j, none⟩) (by show g < B'; omega)]; exact hc i hi j u hj⟩⟩
theorem RowAt.mono {B B' : Nat} {W : World} {a : Option Addr} {n cap k : Nat} {cells : Nat → List Value} (h : RowAt B W a n cap k cells) (hB : B ≤ B') : RowAt B' W a n cap k cells := h.below (Below.refl B' W) hB

/-- a list of strings -/
structure SL where
  a : Option Addr
  n : Nat
  cap : Nat
  f : Nat → ByteArray
def SL.v (s : SL) : Value := .slice s.a s.n s.cap
def SLIn (B : Nat) (W : World) (s : SL) : Prop := RowAt B W s.a s.n s.cap 1 (fun i => [.string (s.f i)]) ∧ ∀ i, i < s.n → (s.f i).size ≤ 140737488355328
theorem SLIn.below {B B' : Nat} {W W' : World} {s : SL} (h : SLIn B W s) (hb : Below B' W W') (hB : B ≤ B') : SLIn B' W' s := ⟨h.1.below hb hB, h.2⟩

/-- a constraint -/
inductive CT where
  | nil
  | mk (op lo hi : Int) (low high : Bool) (a : Option Addr) (n cap : Nat) (ch : Nat → CT)
def CT.cells : CT → List Value
  | .nil => []
  | .mk op lo hi low high a n cap _ => [.int .i64 op, .int .i64 lo, .int .i64 hi, .bool low, .bool high, .slice a n cap]
def CT.v (c : CT) : Value := .agg c.cells.toArray
def CIn (B : Nat) (W : World) : CT → Prop
  | .nil => False
  | .mk op lo hi low high a n cap ch => (I64 op ∧ I64 lo ∧ I64 hi) ∧ RowAt B W a n cap 6 (fun i => (ch i).cells) ∧ ∀ i, i < n → CIn B W (ch i)
theorem CIn.below {B B' : Nat} {W W' : World} : ∀ {c : CT}, CIn B W c → Below B' W W' → B ≤ B' → CIn B' W' c
  | .nil, h, _, _ => h.elim
  | .mk op lo hi low high a n cap ch, h, hb, hB => ⟨h.1, h.2.1.below hb hB, fun i hi => CIn.below (h.2.2 i hi) hb hB⟩
def CT.op : CT → Int
  | .nil => 0
  | .mk op .. => op

/-- a value -/
inductive VT where
  | nil
  | mk (k m : Int) (s : ByteArray) (nm : SL) (a : Option Addr) (n cap : Nat) (ch : Nat → VT)
def VT.cells : VT → List Value
  | .nil => []
  | .mk k m s nm a n cap _ => [.int .i64 k, .int .i64 m, .string s, nm.v, .slice a n cap]
def VT.v (x : VT) : Value := .agg x.cells.toArray
def VIn (B : Nat) (W : World) : VT → Prop
  | .nil => False
  | .mk k m s nm a n cap ch => (I64 k ∧ I64 m ∧ s.size ≤ 140737488355328 ∧ SLIn B W nm) ∧ RowAt B W a n cap 5 (fun i => (ch i).cells) ∧ ∀ i, i < n → VIn B W (ch i)
theorem VIn.below {B B' : Nat} {W W' : World} : ∀ {c : VT}, VIn B W c → Below B' W W' → B ≤ B' → VIn B' W' c
  | .nil, h, _, _ => h.elim
  | .mk k m s nm a n cap ch, h, hb, hB => ⟨⟨h.1.1, h.1.2.1, h.1.2.2.1, h.1.2.2.2.below hb hB⟩, h.2.1.below hb hB, fun i hi => VIn.below (h.2.2 i hi) hb hB⟩

/-- a list of values -/
structure DL where
  a : Option Addr
  n : Nat
  cap : Nat
  f : Nat → VT
def DL.v (s : DL) : Value := .slice s.a s.n s.cap
def DLIn (B : Nat) (W : World) (s : DL) : Prop := RowAt B W s.a s.n s.cap 5 (fun i => (s.f i).cells) ∧ ∀ i, i < s.n → VIn B W (s.f i)
theorem DLIn.below {B B' : Nat} {W W' : World} {s : DL} (h : DLIn B W s) (hb : Below B' W W') (hB : B ≤ B') : DLIn B' W' s := ⟨h.1.below hb hB, fun i hi => (h.2 i hi).below hb hB⟩

/-- a part without its type -/
structure PD where
  name : ByteArray
  opt : Bool
  d : DL
/-- a list of parts without their types -/
structure PL where
  a : Option Addr
  n : Nat
  cap : Nat
  f : Nat → PD
def PL.v (s : PL) : Value := .slice s.a s.n s.cap

/-- a type -/
inductive TT where
  | nil
  | mk (kind : Int) (name : ByteArray) (con : CT) (ext : Bool) (fr : ByteArray) (nm mo : SL) (pa : PL) (pt : Nat → TT) (ad : PL) (at_ : Nat → TT) (ea : Option Addr) (en ecap : Nat) (et : Nat → TT)
def TT.cells : TT → List Value
  | .nil => []
  | .mk kind name con ext fr nm mo pa _ ad _ ea en ecap _ => [.int .i64 kind, .string name] ++ con.cells ++ [.bool ext, .string fr, nm.v, mo.v, pa.v, ad.v, .slice ea en ecap]
def TT.v (t : TT) : Value := .agg t.cells.toArray
def pcells (p : PD) (t : TT) : List Value := [.string p.name] ++ t.cells ++ [.bool p.opt, p.d.v]
def PDIn (B : Nat) (W : World) (p : PD) : Prop := p.name.size ≤ 140737488355328 ∧ DLIn B W p.d
theorem PDIn.below {B B' : Nat} {W W' : World} {p : PD} (h : PDIn B W p) (hb : Below B' W W') (hB : B ≤ B') : PDIn B' W' p := ⟨h.1, h.2.below hb hB⟩
def TIn (B : Nat) (W : World) : TT → Prop
  | .nil => False
  | .mk kind name con ext fr nm mo pa pt ad at_ ea en ecap et =>
    (I64 kind ∧ name.size ≤ 140737488355328 ∧ CIn B W con ∧ fr.size ≤ 140737488355328 ∧ SLIn B W nm ∧ SLIn B W mo) ∧
    (RowAt B W pa.a pa.n pa.cap 18 (fun i => pcells (pa.f i) (pt i)) ∧ ∀ i, i < pa.n → PDIn B W (pa.f i) ∧ TIn B W (pt i)) ∧
    (RowAt B W ad.a ad.n ad.cap 18 (fun i => pcells (ad.f i) (at_ i)) ∧ ∀ i, i < ad.n → PDIn B W (ad.f i) ∧ TIn B W (at_ i)) ∧
    (RowAt B W ea en ecap 15 (fun i => (et i).cells) ∧ ∀ i, i < en → TIn B W (et i))
theorem TIn.below {B B' : Nat} {W W' : World} : ∀ {t : TT}, TIn B W t → Below B' W W' → B ≤ B' → TIn B' W' t
  | .nil, h, _, _ => h.elim
  | .mk kind name con ext fr nm mo pa pt ad at_ ea en ecap et, ⟨⟨h1, h2, h3, h4, h5, h6⟩, ⟨p1, p2⟩, ⟨a1, a2⟩, ⟨e1, e2⟩⟩, hb, hB =>
    ⟨⟨h1, h2, h3.below hb hB, h4, h5.below hb hB, h6.below hb hB⟩,
     ⟨p1.below hb hB, fun i hi => ⟨(p2 i hi).1.below hb hB, TIn.below (p2 i hi).2 hb hB⟩⟩,
     ⟨a1.below hb hB, fun i hi => ⟨(a2 i hi).1.below hb hB, TIn.below (a2 i hi).2 hb hB⟩⟩,
     ⟨e1.below hb hB, fun i hi => TIn.below (e2 i hi) hb hB⟩⟩

/-- all of the first n -/
def allN (f : Nat → Bool) : Nat → Bool
  | 0 => true
  | n + 1 => allN f n && f n
theorem allN_no {f : Nat → Bool} {i n : Nat} (hi : i < n) (hf : f i = false) : allN f n = false := by
  induction n with
  | zero => omega
  | succ n ih =>
    rcases Nat.lt_or_ge i n with h | h
    · simp only [allN, ih h, Bool.false_and]
    · obtain rfl : i = n := by omega
      simp only [allN, hf, Bool.and_false]
theorem allN_iff {f : Nat → Bool} {n : Nat} : allN f n = true ↔ ∀ i, i < n → f i = true := by
  induction n with
  | zero => simp [allN]
  | succ n ih =>
    simp only [allN, Bool.and_eq_true, ih]
    constructor
    · intro h i hi
      rcases Nat.lt_or_ge i n with h2 | h2
      · exact h.1 i h2
      · obtain rfl : i = n := by omega
        exact h.2
    · exact fun h => ⟨fun i hi => h i (by omega), h n (by omega)⟩
theorem allN_succ {f : Nat → Bool} {n : Nat} (h : allN f n = true) (hf : f n = true) : allN f (n + 1) = true := by simp only [allN, h, hf, Bool.and_self]
end Go.Proofs.Ytecedbjkebdeaaa
