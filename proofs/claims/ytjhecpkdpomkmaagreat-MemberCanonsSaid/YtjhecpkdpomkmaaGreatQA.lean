/-
  A bundle of texts, one behind the other: ShM, SpM, SpR, ShL, SpS, ShFew, BdM, BdQ, ShEv.
-/
import Derived.Test.YtjhecpkdpomkmaaGreatProg
import Derived.WalkKit
import Derived.Below
import Derived.Lib.Hide
import Derived.KernelRfl
import Derived.RowKit
import Derived.Deep.Slices
import Derived.Deep.MidRow
import Derived.Deep.WholeRow
import Derived.Lib.Slices
import Derived.Lib.Agree
import Derived.Shelf.Abstract
import Derived.Deep.QuietTactic
import Derived.BigQuiet
import Derived.Deep.DeepCutAuto
import Derived.StillTailTactics
import Derived.Deep.RegionHeld3
import Derived.Lib.Walk
import Derived.Lib.SmallJoins
import Derived.Lib.QuietBelow
import Derived.Deep.Cut
import Derived.Lib.SliceRun
namespace Go.Proofs.YtjhecpkdpomkmaaGreat
open Go.RowKit
set_option linter.unusedVariables false
set_option linter.unusedSimpArgs false
set_option maxRecDepth 100000

def I64 (n : Int) : Prop := -9223372036854775808 ≤ n ∧ n ≤ 9223372036854775807
/-- a row of n elements of k cells each, below block B -/
def RowAt (B : Nat) (W : World) (a : Option Addr) (n cap k : Nat) (cells : Nat → List Value) : Prop :=
  n ≤ cap ∧ n ≤ 140737488355328 ∧ (a = none → n = 0 ∧ cap = 0) ∧ (0 < n → ∃ g o, a = some ⟨g, o, none⟩ ∧ g < B ∧ ∀ i, i < n → ∀ j u, (cells i)[j]? = some u → W.cell? ⟨g, o + i * k + j, none⟩ = some u)
theorem RowAt.below {B B' : Nat} {W W' : World} {a : Option Addr} {n cap k : Nat} {cells : Nat → List Value} (h : RowAt B W a n cap k cells) (hb : Below B' W W') (hB : B ≤ B') : RowAt B' W' a n cap k cells :=
  ⟨h.1, h.2.1, h.2.2.1, fun hn => by
    obtain ⟨g, o, ha, hg, hc⟩ := h.2.2.2 hn
    exact ⟨g, o, ha, by omega, fun i hi j u hj => by rw [hb.cell (p := ⟨g, o + i * k + j, none⟩) (by show g < B'; omega)]; exact hc i hi j u hj⟩⟩
theorem RowAt.mono {B B' : Nat} {W : World} {a : Option Addr} {n cap k : Nat} {cells : Nat → List Value} (h : RowAt B W a n cap k cells) (hB : B ≤ B') : RowAt B' W a n cap k cells := h.below (Below.refl B' W) hB

/-- a list of strings -/
structure SL where
  a : Option Addr
  n : Nat
  cap : Nat
  f : Nat → ByteArray
def SL.v (s : SL) : Value := .slice s.a s.n s.cap
def SLIn (B : Nat) (W : World) (s : SL) : Prop := RowAt B W s.a s.n s.cap 1 (fun i => [.string (s.f i)]) ∧ ∀ i, i < s.n → (s.f i).size ≤ 140737488355328
theorem SLIn.below {B B' : Nat} {W W' : World} {s : SL} (h : SLIn B W s) (hb : Below B' W W') (hB : B ≤ B') : SLIn B' W' s := ⟨h.1.below hb hB, h.2⟩

/-- a constraint -/
inductive CT where
  | nil
  | mk (op lo hi : Int) (low high : Bool) (a : Option Addr) (n cap : Nat) (ch : Nat → CT)
def CT.cells : CT → List Value
  | .nil => []
  | .mk op lo hi low high a n cap _ => [.int .i64 op, .int .i64 lo, .int .i64 hi, .bool low, .bool high, .slice a n cap]
def CT.v (c : CT) : Value := .agg c.cells.toArray
def CIn (B : Nat) (W : World) : CT → Prop
  | .nil => False
  | .mk op lo hi low high a n cap ch => (I64 op ∧ I64 lo ∧ I64 hi) ∧ RowAt B W a n cap 6 (fun i => (ch i).cells) ∧ ∀ i, i < n → CIn B W (ch i)
theorem CIn.below {B B' : Nat} {W W' : World} : ∀ {c : CT}, CIn B W c → Below B' W W' → B ≤ B' → CIn B' W' c
  | .nil, h, _, _ => h.elim
  | .mk op lo hi low high a n cap ch, h, hb, hB => ⟨h.1, h.2.1.below hb hB, fun i hi => CIn.below (h.2.2 i hi) hb hB⟩
def CT.op : CT → Int
  | .nil => 0
  | .mk op .. => op

/-- a value -/
inductive VT where
  | nil
  | mk (k m : Int) (s : ByteArray) (nm : SL) (a : Option Addr) (n cap : Nat) (ch : Nat → VT)
def VT.cells : VT → List Value
  | .nil => []
  | .mk k m s nm a n cap _ => [.int .i64 k, .int .i64 m, .string s, nm.v, .slice a n cap]
def VT.v (x : VT) : Value := .agg x.cells.toArray
def VIn (B : Nat) (W : World) : VT → Prop
  | .nil => False
  | .mk k m s nm a n cap ch => (I64 k ∧ I64 m ∧ s.size ≤ 140737488355328 ∧ SLIn B W nm) ∧ RowAt B W a n cap 5 (fun i => (ch i).cells) ∧ ∀ i, i < n → VIn B W (ch i)
theorem VIn.below {B B' : Nat} {W W' : World} : ∀ {c : VT}, VIn B W c → Below B' W W' → B ≤ B' → VIn B' W' c
  | .nil, h, _, _ => h.elim
  | .mk k m s nm a n cap ch, h, hb, hB => ⟨⟨h.1.1, h.1.2.1, h.1.2.2.1, h.1.2.2.2.below hb hB⟩, h.2.1.below hb hB, fun i hi => VIn.below (h.2.2 i hi) hb hB⟩

/-- a list of values -/
structure DL where
  a : Option Addr
  n : Nat
  cap : Nat
  f : Nat → VT
def DL.v (s : DL) : Value := .slice s.a s.n s.cap
def DLIn (B : Nat) (W : World) (s : DL) : Prop := RowAt B W s.a s.n s.cap 5 (fun i => (s.f i).cells) ∧ ∀ i, i < s.n → VIn B W (s.f i)
theorem DLIn.below {B B' : Nat} {W W' : World} {s : DL} (h : DLIn B W s) (hb : Below B' W W') (hB : B ≤ B') : DLIn B' W' s := ⟨h.1.below hb hB, fun i hi => (h.2 i hi).below hb hB⟩

/-- a part without its type -/
structure PD where
  name : ByteArray
  opt : Bool
  d : DL
/-- a list of parts without their types -/
structure PL where
  a : Option Addr
  n : Nat
  cap : Nat
  f : Nat → PD
def PL.v (s : PL) : Value := .slice s.a s.n s.cap

/-- a type -/
inductive TT where
  | nil
  | mk (kind : Int) (name : ByteArray) (con : CT) (ext : Bool) (fr : ByteArray) (nm mo : SL) (pa : PL) (pt : Nat → TT) (ad : PL) (at_ : Nat → TT) (ea : Option Addr) (en ecap : Nat) (et : Nat → TT)
def TT.cells : TT → List Value
  | .nil => []
  | .mk kind name con ext fr nm mo pa _ ad _ ea en ecap _ => [.int .i64 kind, .string name] ++ con.cells ++ [.bool ext, .string fr, nm.v, mo.v, pa.v, ad.v, .slice ea en ecap]
def TT.v (t : TT) : Value := .agg t.cells.toArray
def pcells (p : PD) (t : TT) : List Value := [.string p.name] ++ t.cells ++ [.bool p.opt, p.d.v]
def PDIn (B : Nat) (W : World) (p : PD) : Prop := p.name.size ≤ 140737488355328 ∧ DLIn B W p.d
theorem PDIn.below {B B' : Nat} {W W' : World} {p : PD} (h : PDIn B W p) (hb : Below B' W W') (hB : B ≤ B') : PDIn B' W' p := ⟨h.1, h.2.below hb hB⟩
def TIn (B : Nat) (W : World) : TT → Prop
  | .nil => False
  | .mk kind name con ext fr nm mo pa pt ad at_ ea en ecap et =>
    (I64 kind ∧ name.size ≤ 140737488355328 ∧ CIn B W con ∧ fr.size ≤ 140737488355328 ∧ SLIn B W nm ∧ SLIn B W mo) ∧
    (RowAt B W pa.a pa.n pa.cap 18 (fun i => pcells (pa.f i) (pt i)) ∧ ∀ i, i < pa.n → PDIn B W (pa.f i) ∧ TIn B W (pt i)) ∧
    (RowAt B W ad.a ad.n ad.cap 18 (fun i => pcells (ad.f i) (at_ i)) ∧ ∀ i, i < ad.n → PDIn B W (ad.f i) ∧ TIn B W (at_ i)) ∧
    (RowAt B W ea en ecap 15 (fun i => (et i).cells) ∧ ∀ i, i < en → TIn B W (et i))
theorem TIn.below {B B' : Nat} {W W' : World} : ∀ {t : TT}, TIn B W t → Below B' W W' → B ≤ B' → TIn B' W' t
  | .nil, h, _, _ => h.elim
  | .mk kind name con ext fr nm mo pa pt ad at_ ea en ecap et, ⟨⟨h1, h2, h3, h4, h5, h6⟩, ⟨p1, p2⟩, ⟨a1, a2⟩, ⟨e1, e2⟩⟩, hb, hB =>
    ⟨⟨h1, h2, h3.below hb hB, h4, h5.below hb hB, h6.below hb hB⟩,
     ⟨p1.below hb hB, fun i hi => ⟨(p2 i hi).1.below hb hB, TIn.below (p2 i hi).2 hb hB⟩⟩,
     ⟨a1.below hb hB, fun i hi => ⟨(a2 i hi).1.below hb hB, TIn.below (a2 i hi).2 hb hB⟩⟩,
     ⟨e1.below hb hB, fun i hi => TIn.below (e2 i hi) hb hB⟩⟩

/-- all of the first n -/
def allN (f : Nat → Bool) : Nat → Bool
  | 0 => true
  | n + 1 => allN f n && f n
theorem allN_no {f : Nat → Bool} {i n : Nat} (hi : i < n) (hf : f i = false) : allN f n = false := by
  induction n with
  | zero => omega
  | succ n ih =>
    rcases Nat.lt_or_ge i n with h | h
    · simp only [allN, ih h, Bool.false_and]
    · obtain rfl : i = n := by omega
      simp only [allN, hf, Bool.and_false]
theorem allN_iff {f : Nat → Bool} {n : Nat} : allN f n = true ↔ ∀ i, i < n → f i = true := by
  induction n with
  | zero => simp [allN]
  | succ n ih =>
    simp only [allN, Bool.and_eq_true, ih]
    constructor
    · intro h i hi
      rcases Nat.lt_or_ge i n with h2 | h2
      · exact h.1 i h2
      · obtain rfl : i = n := by omega
        exact h.2
    · exact fun h => ⟨fun i hi => h i (by omega), h n (by omega)⟩
theorem allN_succ {f : Nat → Bool} {n : Nat} (h : allN f n = true) (hf : f n = true) : allN f (n + 1) = true := by simp only [allN, h, hf, Bool.and_self]
end Go.Proofs.YtjhecpkdpomkmaaGreat

namespace Go.Proofs.YtjhecpkdpomkmaaGreat
set_option linter.unusedVariables false
set_option linter.unusedSimpArgs false
set_option maxRecDepth 100000

abbrev Rg := Int × Int
abbrev lowest : Int := -9223372036854775808
abbrev most : Int := 9223372036854775807
def Bd (l : List Rg) : Prop := ∀ r ∈ l, I64 r.1 ∧ I64 r.2
def mem (l : List Rg) (n : Int) : Prop := ∃ r ∈ l, r.1 ≤ n ∧ n ≤ r.2
def rgt (l : List Rg) : Prop := l.Pairwise (fun r s => r.2 + 1 < s.1) ∧ ∀ r ∈ l, r.1 ≤ r.2
def hasB (l : List Rg) (n : Int) : Bool := l.any fun r => decide (r.1 ≤ n) && decide (n ≤ r.2)
theorem hasB_iff {l : List Rg} {n : Int} : hasB l n = true ↔ mem l n := by
  unfold hasB mem
  simp
theorem mem_nil {n : Int} : ¬ mem [] n := by simp [mem]
theorem mem_cons {r : Rg} {l : List Rg} {n : Int} : mem (r :: l) n ↔ (r.1 ≤ n ∧ n ≤ r.2) ∨ mem l n := by simp [mem]
theorem mem_append {a b : List Rg} {n : Int} : mem (a ++ b) n ↔ mem a n ∨ mem b n := by
  simp only [mem, List.mem_append, or_and_right, exists_or]
theorem mem_one {r : Rg} {n : Int} : mem [r] n ↔ r.1 ≤ n ∧ n ≤ r.2 := by simp [mem]
theorem Bd.nil : Bd [] := by simp [Bd]
theorem Bd.cons {r : Rg} {l : List Rg} : Bd (r :: l) ↔ (I64 r.1 ∧ I64 r.2) ∧ Bd l := by simp [Bd]
theorem Bd.append {a b : List Rg} : Bd (a ++ b) ↔ Bd a ∧ Bd b := by
  simp only [Bd, List.mem_append]
  exact ⟨fun h => ⟨fun r hr => h r (.inl hr), fun r hr => h r (.inr hr)⟩, fun h r hr => hr.elim (h.1 r) (h.2 r)⟩
theorem Bd.mem {l : List Rg} (h : Bd l) {n : Int} (hm : mem l n) : I64 n := by
  obtain ⟨r, hr, h1, h2⟩ := hm
  have := h r hr
  unfold I64 at *
  omega
theorem rgt_nil : rgt [] := by simp [rgt]
theorem rgt_cons {r : Rg} {l : List Rg} : rgt (r :: l) ↔ r.1 ≤ r.2 ∧ (∀ s ∈ l, r.2 + 1 < s.1) ∧ rgt l := by
  unfold rgt
  rw [List.pairwise_cons]
  constructor
  · rintro ⟨⟨h1, h2⟩, h3⟩
    exact ⟨h3 r (List.mem_cons_self ..), h1, h2, fun s hs => h3 s (List.mem_cons_of_mem _ hs)⟩
  · rintro ⟨h1, h2, h3, h4⟩
    refine ⟨⟨h2, h3⟩, fun s hs => ?_⟩
    rcases List.mem_cons.1 hs with rfl | hs
    · exact h1
    · exact h4 s hs
theorem rgt_one {r : Rg} : rgt [r] ↔ r.1 ≤ r.2 := by rw [rgt_cons]; simp [rgt_nil]
theorem rgt_append {a b : List Rg} : rgt (a ++ b) ↔ rgt a ∧ rgt b ∧ ∀ r ∈ a, ∀ s ∈ b, r.2 + 1 < s.1 := by
  unfold rgt
  rw [List.pairwise_append]
  constructor
  · rintro ⟨⟨h1, h2, h3⟩, h4⟩
    exact ⟨⟨h1, fun r hr => h4 r (List.mem_append_left _ hr)⟩, ⟨h2, fun r hr => h4 r (List.mem_append_right _ hr)⟩, h3⟩
  · rintro ⟨⟨h1, h2⟩, ⟨h3, h4⟩, h5⟩
    exact ⟨⟨h1, h3, h5⟩, fun r hr => (List.mem_append.1 hr).elim (h2 r) (h4 r)⟩
theorem rgt.lo {r : Rg} {l : List Rg} (h : rgt (r :: l)) {n : Int} (hm : mem (r :: l) n) : r.1 ≤ n := by
  obtain ⟨h1, h2, _⟩ := rgt_cons.1 h
  rcases mem_cons.1 hm with h3 | ⟨s, hs, h3, _⟩
  · exact h3.1
  · have := h2 s hs
    omega
theorem rgt.gap {r : Rg} {l : List Rg} (h : rgt (r :: l)) {n : Int} (hm : mem l n) : r.2 + 1 < n := by
  obtain ⟨h1, h2, _⟩ := rgt_cons.1 h
  obtain ⟨s, hs, h3, _⟩ := hm
  have := h2 s hs
  omega
theorem rgt.uniq : ∀ {a b : List Rg}, rgt a → rgt b → (∀ n, mem a n ↔ mem b n) → a = b
  | [], [], _, _, _ => rfl
  | [], s :: b, _, hb, h => absurd ((h s.1).2 (mem_cons.2 (.inl ⟨Int.le_refl _, (rgt_cons.1 hb).1⟩))) mem_nil
  | r :: a, [], ha, _, h => absurd ((h r.1).1 (mem_cons.2 (.inl ⟨Int.le_refl _, (rgt_cons.1 ha).1⟩))) mem_nil
  | (r1, r2) :: a, (s1, s2) :: b, ha, hb, h => by
    have hr := (rgt_cons.1 ha).1
    have hs := (rgt_cons.1 hb).1
    simp only at hr hs
    have e1 : r1 = s1 := by
      have h1 := hb.lo ((h r1).1 (mem_cons.2 (.inl ⟨Int.le_refl _, hr⟩)))
      have h2 := ha.lo ((h s1).2 (mem_cons.2 (.inl ⟨Int.le_refl _, hs⟩)))
      simp only at h1 h2
      omega
    subst e1
    have e2 : r2 = s2 := by
      rcases Int.lt_trichotomy r2 s2 with hlt | he | hlt
      · have h1 := (h (r2 + 1)).2 (mem_cons.2 (.inl ⟨by simp only; omega, by simp only; omega⟩))
        rcases mem_cons.1 h1 with h2 | h2
        · simp only at h2; omega
        · have := ha.gap h2; simp only at this; omega
      · exact he
      · have h1 := (h (s2 + 1)).1 (mem_cons.2 (.inl ⟨by simp only; omega, by simp only; omega⟩))
        rcases mem_cons.1 h1 with h2 | h2
        · simp only at h2; omega
        · have := hb.gap h2; simp only at this; omega
    subst e2
    congr 1
    refine rgt.uniq (rgt_cons.1 ha).2.2 (rgt_cons.1 hb).2.2 (fun n => ⟨fun hm => ?_, fun hm => ?_⟩)
    · have h1 := ha.gap hm
      rcases mem_cons.1 ((h n).1 (mem_cons.2 (.inr hm))) with h2 | h2
      · simp only at h1 h2; omega
      · exact h2
    · have h1 := hb.gap hm
      rcases mem_cons.1 ((h n).2 (mem_cons.2 (.inr hm))) with h2 | h2
      · simp only at h1 h2; omega
      · exact h2

/-- the set tells just the numbers for which p holds -/
def Says (l : List Rg) (p : Int → Prop) : Prop := rgt l ∧ Bd l ∧ ∀ n, I64 n → (mem l n ↔ p n)
theorem Says.eq {a b : List Rg} {p q : Int → Prop} (ha : Says a p) (hb : Says b q) (h : ∀ n, I64 n → (p n ↔ q n)) : a = b :=
  ha.1.uniq hb.1 fun n => ⟨fun hm => by have i := ha.2.1.mem hm; exact (hb.2.2 n i).2 ((h n i).1 ((ha.2.2 n i).1 hm)), fun hm => by have i := hb.2.1.mem hm; exact (ha.2.2 n i).2 ((h n i).2 ((hb.2.2 n i).1 hm))⟩
theorem Says.has {a : List Rg} {p : Int → Prop} (h : Says a p) {n : Int} (hn : I64 n) (b : Bool) (hb : b = true ↔ p n) : hasB a n = b := by
  rw [Bool.eq_iff_iff, hasB_iff, h.2.2 n hn, hb]

/-! ### joined -/
def stpS (kept : List Rg) (r : Rg) : List Rg :=
  match kept.getLast? with
  | none => [r]
  | some k => if k.2 + 1 < r.1 then kept ++ [r] else kept.dropLast ++ [(k.1, max k.2 r.2)]
theorem stp_nil (r : Rg) : stpS [] r = [r] := rfl
theorem stp_apart {i : List Rg} {k r : Rg} (h : k.2 + 1 < r.1) : stpS (i ++ [k]) r = i ++ [k] ++ [r] := by
  simp [stpS, h]
theorem stp_join {i : List Rg} {k r : Rg} (h : ¬ k.2 + 1 < r.1) : stpS (i ++ [k]) r = i ++ [(k.1, max k.2 r.2)] := by
  simp [stpS, h]
theorem snoc_cases (l : List Rg) : l = [] ∨ ∃ i k, l = i ++ [k] := by
  rcases List.eq_nil_or_concat l with h | ⟨i, k, h⟩
  · exact .inl h
  · exact .inr ⟨i, k, by simpa using h⟩
theorem rgt_snoc {i : List Rg} {k r : Rg} : rgt (i ++ [k] ++ [r]) ↔ rgt (i ++ [k]) ∧ k.2 + 1 < r.1 ∧ r.1 ≤ r.2 := by
  rw [rgt_append, rgt_one]
  constructor
  · rintro ⟨h1, h2, h3⟩
    exact ⟨h1, h3 k (by simp) r (by simp), h2⟩
  · rintro ⟨h1, h2, h3⟩
    refine ⟨h1, h3, fun s hs t ht => ?_⟩
    obtain rfl : t = r := by simpa using ht
    rcases List.mem_append.1 hs with hs | hs
    · have h4 := (rgt_append.1 h1).2.2 s hs k (by simp)
      have h5 := h1.2 k (by simp)
      omega
    · obtain rfl : s = k := by simpa using hs
      exact h2
structure JInv (done kept : List Rg) : Prop where
  rgt : rgt kept
  bd : Bd kept
  mem : ∀ n, mem kept n ↔ mem done n
  lo : ∀ k ∈ kept, ∃ d ∈ done, k.1 = d.1
  len : kept.length ≤ done.length
theorem JInv.nil : JInv [] [] := ⟨rgt_nil, Bd.nil, fun n => Iff.rfl, fun k hk => (by simp at hk), Nat.le_refl _⟩
theorem JInv.step {done kept : List Rg} {r : Rg} (h : JInv done kept) (hr : r.1 ≤ r.2) (hb : I64 r.1 ∧ I64 r.2) (hlo : ∀ d ∈ done, d.1 ≤ r.1) : JInv (done ++ [r]) (stpS kept r) := by
  have hl := h.len
  rcases snoc_cases kept with rfl | ⟨i, k, rfl⟩
  · rw [stp_nil]
    refine ⟨rgt_one.2 hr, Bd.cons.2 ⟨hb, Bd.nil⟩, fun n => ?_, fun k hk => ⟨r, by simp, by simp at hk; rw [hk]⟩, by simp⟩
    rw [mem_append, ← h.mem n, mem_one]
    simp [mem_nil]
  · have hbk := h.bd k (by simp)
    have hbi := (Bd.append.1 h.bd).1
    have hk := h.rgt.2 k (by simp)
    obtain ⟨d, hd, hkd⟩ := h.lo k (by simp)
    have hdr := hlo d hd
    by_cases hap : k.2 + 1 < r.1
    · rw [stp_apart hap]
      refine ⟨rgt_snoc.2 ⟨h.rgt, hap, hr⟩, Bd.append.2 ⟨h.bd, Bd.cons.2 ⟨hb, Bd.nil⟩⟩, fun n => ?_, fun s hs => ?_, by simp at hl ⊢; omega⟩
      · rw [mem_append, mem_append (a := done), h.mem n]
      · rcases List.mem_append.1 hs with hs | hs
        · obtain ⟨d, hd, e⟩ := h.lo s hs
          exact ⟨d, List.mem_append_left _ hd, e⟩
        · exact ⟨r, by simp, by simp at hs; rw [hs]⟩
    · rw [stp_join hap]
      have hri := rgt_append.1 h.rgt
      refine ⟨rgt_append.2 ⟨hri.1, rgt_one.2 (by simp only; omega), fun s hs t ht => ?_⟩, Bd.append.2 ⟨hbi, Bd.cons.2 ⟨?_, Bd.nil⟩⟩, fun n => ?_, fun s hs => ?_, by simp at hl ⊢; omega⟩
      · obtain rfl : t = (k.1, max k.2 r.2) := by simpa using ht
        exact hri.2.2 s hs k (by simp)
      · unfold I64 at *
        simp only
        omega
      · rw [mem_append, mem_append, ← h.mem n, mem_append, mem_one, mem_one, mem_one, or_assoc]
        refine or_congr Iff.rfl ?_
        simp only
        omega
      · rcases List.mem_append.1 hs with hs | hs
        · obtain ⟨d, hd, e⟩ := h.lo s (List.mem_append_left _ hs)
          exact ⟨d, List.mem_append_left _ hd, e⟩
        · refine ⟨d, List.mem_append_left _ hd, ?_⟩
          simp at hs
          rw [hs]
          exact hkd

/-! ### common -/
def cmn : List Rg → List Rg → List Rg
  | [], _ => []
  | _ :: _, [] => []
  | a :: ta, b :: tb =>
    (if max a.1 b.1 ≤ min a.2 b.2 then [(max a.1 b.1, min a.2 b.2)] else []) ++ (if a.2 < b.2 then cmn ta (b :: tb) else cmn (a :: ta) tb)
  termination_by a b => a.length + b.length
theorem cmn_nil (b : List Rg) : cmn [] b = [] := by rw [cmn]
theorem cmn_nil2 (a : List Rg) : cmn a [] = [] := by cases a <;> rw [cmn]
theorem cmn_cons (a : Rg) (ta : List Rg) (b : Rg) (tb : List Rg) : cmn (a :: ta) (b :: tb) = (if max a.1 b.1 ≤ min a.2 b.2 then [(max a.1 b.1, min a.2 b.2)] else []) ++ (if a.2 < b.2 then cmn ta (b :: tb) else cmn (a :: ta) tb) := by rw [cmn]
theorem cmn_ok (N : Nat) : ∀ (a b : List Rg), a.length + b.length ≤ N → rgt a → rgt b → Bd a → Bd b →
    rgt (cmn a b) ∧ Bd (cmn a b) ∧ (∀ n, mem (cmn a b) n ↔ mem a n ∧ mem b n) ∧ (cmn a b).length ≤ a.length + b.length := by
  induction N with
  | zero =>
    intro a b hl ha hb _ _
    obtain rfl : a = [] := List.length_eq_zero_iff.1 (by omega)
    rw [cmn_nil]
    exact ⟨rgt_nil, Bd.nil, fun n => by simp [mem_nil], by simp⟩
  | succ N ih =>
    intro a b hl ha hb hba hbb
    match a, b with
    | [], b => rw [cmn_nil]; exact ⟨rgt_nil, Bd.nil, fun n => by simp [mem_nil], by simp⟩
    | a :: ta, [] => rw [cmn_nil2]; exact ⟨rgt_nil, Bd.nil, fun n => by simp [mem_nil], by simp⟩
    | a :: ta, b :: tb =>
      rw [cmn_cons]
      simp only [List.length_cons] at hl
      have h1 := rgt_cons.1 ha
      have h2 := rgt_cons.1 hb
      have b1 := Bd.cons.1 hba
      have b2 := Bd.cons.1 hbb
      -- what follows, with what it tells
      have key : ∃ T, (if a.2 < b.2 then cmn ta (b :: tb) else cmn (a :: ta) tb) = T ∧ rgt T ∧ Bd T ∧ T.length ≤ ta.length + tb.length + 1 ∧ (∀ n, mem T n → min a.2 b.2 + 1 < n) ∧ ∀ n, (mem (a :: ta) n ∧ mem (b :: tb) n ↔ (max a.1 b.1 ≤ n ∧ n ≤ min a.2 b.2) ∨ mem T n) := by
        by_cases hlt : a.2 < b.2
        · rw [if_pos hlt]
          obtain ⟨t1, t2, t3, t4⟩ := ih ta (b :: tb) (by simp only [List.length_cons]; omega) h1.2.2 hb b1.2 hbb
          simp only [List.length_cons] at t4
          refine ⟨_, rfl, t1, t2, by omega, fun n hn => ?_, fun n => ?_⟩
          · have := ha.gap ((t3 n).1 hn).1
            omega
          · rw [t3 n, mem_cons (r := a)]
            constructor
            · rintro ⟨h3 | h3, h4⟩
              · have := hb.lo h4
                exact .inl ⟨by omega, by omega⟩
              · exact .inr ⟨h3, h4⟩
            · rintro (h3 | ⟨h3, h4⟩)
              · exact ⟨.inl ⟨by omega, by omega⟩, mem_cons.2 (.inl ⟨by omega, by omega⟩)⟩
              · exact ⟨.inr h3, h4⟩
        · rw [if_neg hlt]
          obtain ⟨t1, t2, t3, t4⟩ := ih (a :: ta) tb (by simp only [List.length_cons]; omega) ha h2.2.2 hba b2.2
          simp only [List.length_cons] at t4
          refine ⟨_, rfl, t1, t2, by omega, fun n hn => ?_, fun n => ?_⟩
          · have := hb.gap ((t3 n).1 hn).2
            omega
          · rw [t3 n, mem_cons (r := b)]
            constructor
            · rintro ⟨h4, h3 | h3⟩
              · have := ha.lo h4
                exact .inl ⟨by omega, by omega⟩
              · exact .inr ⟨h4, h3⟩
            · rintro (h3 | ⟨h4, h3⟩)
              · exact ⟨mem_cons.2 (.inl ⟨by omega, by omega⟩), .inl ⟨by omega, by omega⟩⟩
              · exact ⟨h4, .inr h3⟩
      obtain ⟨T, hT, t1, t2, t3, t4, t5⟩ := key
      rw [hT]
      by_cases hc : max a.1 b.1 ≤ min a.2 b.2
      · rw [if_pos hc]
        refine ⟨?_, ?_, fun n => ?_, by simp; omega⟩
        · rw [List.singleton_append, rgt_cons]
          refine ⟨hc, fun s hs => ?_, t1⟩
          exact t4 s.1 ⟨s, hs, Int.le_refl _, t1.2 s hs⟩
        · rw [List.singleton_append, Bd.cons]
          refine ⟨?_, t2⟩
          unfold I64 at *
          simp only
          omega
        · rw [List.singleton_append, mem_cons, t5 n]
      · rw [if_neg hc]
        refine ⟨t1, t2, fun n => ?_, by simp; omega⟩
        rw [List.nil_append, t5 n]
        constructor
        · exact .inr
        · rintro (h | h)
          · omega
          · exact h

/-! ### others -/
def oth : Int → List Rg → List Rg
  | f, [] => [(f, 9223372036854775807)]
  | f, r :: t => (if f < r.1 then [(f, r.1 - 1)] else []) ++ (if r.2 = 9223372036854775807 then [] else oth (r.2 + 1) t)
theorem oth_ok : ∀ (s : List Rg) (f : Int), rgt s → Bd s → I64 f → (∀ r ∈ s, f = -9223372036854775808 ∨ f < r.1) →
    rgt (oth f s) ∧ Bd (oth f s) ∧ (∀ n, mem (oth f s) n → f ≤ n) ∧ (∀ n, I64 n → (mem (oth f s) n ↔ f ≤ n ∧ ¬ mem s n)) ∧ (oth f s).length ≤ s.length + 1
  | [], f, _, _, hf, _ => by
    unfold I64 at hf
    refine ⟨rgt_one.2 hf.2, ?_, fun n hn => (mem_one.1 hn).1, fun n hn => ?_, by simp [oth]⟩
    · simp only [oth, Bd, I64]
      simp
      omega
    · simp only [oth]
      rw [mem_one]
      unfold I64 at hn
      simp [mem_nil]
      omega
  | r :: t, f, hs, hb, hf, hlo => by
    have h1 := rgt_cons.1 hs
    have b1 := Bd.cons.1 hb
    have hl1 := hlo r (by simp)
    have key : ∃ T, (if r.2 = 9223372036854775807 then [] else oth (r.2 + 1) t) = T ∧ rgt T ∧ Bd T ∧ T.length ≤ t.length + 1 ∧ (∀ n, mem T n → r.2 + 1 ≤ n) ∧ ∀ n, I64 n → (mem T n ↔ r.2 + 1 ≤ n ∧ ¬ mem t n) := by
      by_cases he : r.2 = 9223372036854775807
      · rw [if_pos he]
        refine ⟨_, rfl, rgt_nil, Bd.nil, by simp, fun n hn => absurd hn mem_nil, fun n hn => ?_⟩
        unfold I64 at hn
        simp only [mem_nil, false_iff]
        omega
      · rw [if_neg he]
        have hi : I64 (r.2 + 1) := by unfold I64 at *; omega
        obtain ⟨t1, t2, t3, t4, t5⟩ := oth_ok t (r.2 + 1) h1.2.2 b1.2 hi (fun s hs => .inr (h1.2.1 s hs))
        exact ⟨_, rfl, t1, t2, t5, t3, t4⟩
    obtain ⟨T, hT, t1, t2, t3, t4, t5⟩ := key
    simp only [oth]
    rw [hT]
    by_cases hc : f < r.1
    · rw [if_pos hc, List.singleton_append]
      refine ⟨rgt_cons.2 ⟨by simp only; omega, fun s hs => ?_, t1⟩, Bd.cons.2 ⟨?_, t2⟩, fun n hn => ?_, fun n hn => ?_, by simp; omega⟩
      · have := t4 s.1 ⟨s, hs, Int.le_refl _, t1.2 s hs⟩
        have := h1.1
        simp only
        omega
      · unfold I64 at *
        simp only
        omega
      · have := h1.1
        rcases mem_cons.1 hn with h | h
        · exact h.1
        · have := t4 n h; omega
      · have := h1.1
        rw [mem_cons, mem_cons, t5 n hn]
        simp only
        constructor
        · rintro (h | ⟨h, h'⟩)
          · refine ⟨h.1, ?_⟩
            rintro (h2 | h2)
            · omega
            · have := hs.gap h2; omega
          · refine ⟨by omega, ?_⟩
            rintro (h2 | h2)
            · omega
            · exact h' h2
        · rintro ⟨h, h'⟩
          by_cases h3 : n < r.1
          · exact .inl ⟨h, by omega⟩
          · refine .inr ⟨?_, fun h4 => h' (.inr h4)⟩
            have : ¬ (r.1 ≤ n ∧ n ≤ r.2) := fun h4 => h' (.inl h4)
            omega
    · rw [if_neg hc, List.nil_append]
      have hf2 : f = -9223372036854775808 ∧ r.1 = f := by unfold I64 at *; omega
      have := h1.1
      refine ⟨t1, t2, fun n hn => by have := t4 n hn; omega, fun n hn => ?_, by simp; omega⟩
      rw [mem_cons, t5 n hn]
      constructor
      · rintro ⟨h, h'⟩
        refine ⟨by omega, ?_⟩
        rintro (h2 | h2)
        · omega
        · exact h' h2
      · rintro ⟨h, h'⟩
        refine ⟨?_, fun h4 => h' (.inr h4)⟩
        have : ¬ (r.1 ≤ n ∧ n ≤ r.2) := fun h4 => h' (.inl h4)
        omega
end Go.Proofs.YtjhecpkdpomkmaaGreat

namespace Go.Proofs.YtjhecpkdpomkmaaGreat
set_option linter.unusedVariables false
set_option linter.unusedSimpArgs false
set_option maxRecDepth 100000

def Srt (L : List Int) : Prop := L.Pairwise (· < ·)
def Bi (L : List Int) : Prop := ∀ x ∈ L, I64 x
/-- the number n at its place among l -/
structure Pl (l : List Int) (n : Int) (l' : List Int) : Prop where
  srt : Srt l'
  mem : ∀ x, x ∈ l' ↔ x = n ∨ x ∈ l
  len : l'.length ≤ l.length + 1
theorem Pl.here {A B : List Int} {n y : Int} (hs : Srt (A ++ y :: B)) (he : y = n) : Pl (A ++ y :: B) n (A ++ y :: B) :=
  ⟨hs, fun x => ⟨.inr, fun h => h.elim (fun e => by subst e; subst he; simp) id⟩, by simp⟩
theorem Pl.new {A B : List Int} {n : Int} (hs : Srt (A ++ B)) (hA : ∀ x ∈ A, x < n) (hB : ∀ x ∈ B.head?, n < x) : Pl (A ++ B) n (A ++ [n] ++ B) := by
  unfold Srt at hs
  rw [List.pairwise_append] at hs
  obtain ⟨h1, h2, h3⟩ := hs
  have hB2 : ∀ x ∈ B, n < x := by
    intro x hx
    cases B with
    | nil => simp at hx
    | cons y r =>
      have := hB y (by simp)
      rcases List.mem_cons.1 hx with rfl | hx
      · exact this
      · have := (List.pairwise_cons.1 h2).1 x hx
        omega
  refine ⟨?_, fun x => by simp; constructor <;> (intro h; rcases h with h | h | h <;> simp [h]), by simp; omega⟩
  unfold Srt
  rw [List.append_assoc, List.pairwise_append]
  refine ⟨h1, ?_, fun x hx y hy => ?_⟩
  · rw [List.singleton_append, List.pairwise_cons]
    exact ⟨hB2, h2⟩
  · rcases List.mem_cons.1 hy with rfl | hy
    · exact hA x hx
    · exact h3 x hx y hy

/-- all ends of s are among L -/
def Cuts (L : List Int) (s : List Rg) : Prop := ∀ r ∈ s, r.1 ≤ r.2 → r.1 ∈ L ∧ (r.2 < 9223372036854775807 → r.2 + 1 ∈ L)
def Cst (L : List Int) (sel : Int → Bool) : Prop := ∀ m n, I64 m → I64 n → m ≤ n → (∀ x ∈ L, ¬ (m < x ∧ x ≤ n)) → sel m = sel n
theorem Cuts.cst {L : List Int} {s : List Rg} (h : Cuts L s) (hb : Bd s) : Cst L (hasB s) := by
  intro m n hm hn hle hx
  rw [Bool.eq_iff_iff, hasB_iff, hasB_iff]
  unfold I64 at hm hn
  constructor
  · rintro ⟨r, hr, h1, h2⟩
    refine ⟨r, hr, by omega, ?_⟩
    obtain ⟨_, h3⟩ := h r hr (by omega)
    rcases Int.lt_or_le r.2 n with h4 | h4
    · exact absurd ⟨by omega, by omega⟩ (hx _ (h3 (by omega)))
    · exact h4
  · rintro ⟨r, hr, h1, h2⟩
    refine ⟨r, hr, ?_, by omega⟩
    obtain ⟨h3, _⟩ := h r hr (by omega)
    rcases Int.lt_or_le m r.1 with h4 | h4
    · exact absurd ⟨h4, h1⟩ (hx _ h3)
    · exact h4
def selOp (a b : List Rg) (op : Int) (n : Int) : Bool :=
  if op = 0 then hasB a n || hasB b n else if op = 1 then hasB a n && hasB b n else hasB a n && !hasB b n
theorem selOp_cst {L : List Int} {a b : List Rg} (ha : Cst L (hasB a)) (hb : Cst L (hasB b)) (op : Int) : Cst L (selOp a b op) := by
  intro m n hm hn hle hx
  unfold selOp
  rw [ha m n hm hn hle hx, hb m n hm hn hle hx]

def nxt (L : List Int) (i : Nat) : Int := L.getD i 9223372036854775808
theorem nxt_lt {L : List Int} {i : Nat} (h : i < L.length) : nxt L i = L[i] := by simp [nxt, h]
theorem nxt_end {L : List Int} {i : Nat} (h : ¬ i < L.length) : nxt L i = 9223372036854775808 := by simp [nxt, Nat.le_of_not_lt h]
theorem nxt_succ {L : List Int} {i : Nat} (hs : Srt L) (hb : Bi L) (h : i < L.length) : nxt L i < nxt L (i + 1) := by
  rw [nxt_lt h]
  by_cases h2 : i + 1 < L.length
  · rw [nxt_lt h2]
    exact (List.pairwise_iff_getElem.1 hs) i (i + 1) h h2 (by omega)
  · rw [nxt_end h2]
    have := hb L[i] (List.getElem_mem h)
    unfold I64 at this
    omega
theorem nxt_I64 {L : List Int} {i : Nat} (hb : Bi L) (h : i < L.length) : I64 (nxt L i) := by
  rw [nxt_lt h]
  exact hb _ (List.getElem_mem h)
theorem nxt_hi {L : List Int} (hs : Srt L) (hb : Bi L) {i : Nat} (h : i < L.length) : I64 (nxt L (i + 1) - 1) := by
  have h1 := nxt_succ hs hb h
  have h2 := nxt_I64 hb h
  by_cases h3 : i + 1 < L.length
  · have h4 := nxt_I64 hb h3
    unfold I64 at *
    omega
  · rw [nxt_end h3]
    unfold I64
    omega
/-- no cut lies within a piece -/
theorem nxt_none {L : List Int} {i : Nat} (hs : Srt L) (h : i < L.length) : ∀ y ∈ L, ¬ (nxt L i < y ∧ y < nxt L (i + 1)) := by
  rintro y hy ⟨h1, h2⟩
  obtain ⟨j, hj, rfl⟩ := List.mem_iff_getElem.1 hy
  have hp := List.pairwise_iff_getElem.1 hs
  rw [nxt_lt h] at h1
  rcases Nat.lt_trichotomy j i with hji | rfl | hji
  · have := hp j i hj h hji
    omega
  · omega
  · rw [nxt_lt (show i + 1 < L.length by omega)] at h2
    rcases Nat.lt_or_ge (i + 1) j with h3 | h3
    · have := hp (i + 1) j (by omega) hj h3
      omega
    · obtain rfl : j = i + 1 := by omega
      omega
theorem nxt_zero {L : List Int} (hs : Srt L) (hb : Bi L) (hm : (-9223372036854775808 : Int) ∈ L) : nxt L 0 = -9223372036854775808 := by
  obtain ⟨j, hj, he⟩ := List.mem_iff_getElem.1 hm
  have h0 : 0 < L.length := by omega
  rw [nxt_lt h0]
  have h1 := hb L[0] (List.getElem_mem h0)
  unfold I64 at h1
  rcases Nat.eq_zero_or_pos j with rfl | hj0
  · exact he
  · have := (List.pairwise_iff_getElem.1 hs) 0 j h0 hj hj0
    omega

def addp (out : List Rg) (x hi : Int) : List Rg :=
  match out.getLast? with
  | none => [(x, hi)]
  | some k => if k.2 = x - 1 then out.dropLast ++ [(k.1, hi)] else out ++ [(x, hi)]
theorem addp_nil (x hi : Int) : addp [] x hi = [(x, hi)] := rfl
theorem addp_apart {i : List Rg} {k : Rg} {x hi : Int} (h : ¬ k.2 = x - 1) : addp (i ++ [k]) x hi = i ++ [k] ++ [(x, hi)] := by simp [addp, h]
theorem addp_join {i : List Rg} {k : Rg} {x hi : Int} (h : k.2 = x - 1) : addp (i ++ [k]) x hi = i ++ [(k.1, hi)] := by simp [addp, h]
structure OInv (L : List Int) (sel : Int → Bool) (i : Nat) (out : List Rg) : Prop where
  rgt : rgt out
  bd : Bd out
  tells : ∀ n, I64 n → (mem out n ↔ sel n = true ∧ n < nxt L i)
  len : out.length ≤ i
theorem OInv.start {L : List Int} {sel : Int → Bool} (hs : Srt L) (hb : Bi L) (hm : (-9223372036854775808 : Int) ∈ L) : OInv L sel 0 [] :=
  ⟨rgt_nil, Bd.nil, fun n hn => by
    rw [nxt_zero hs hb hm]
    unfold I64 at hn
    simp only [mem_nil, false_iff]
    omega, Nat.le_refl _⟩
theorem OInv.no {L : List Int} {sel : Int → Bool} {i : Nat} {out : List Rg} (h : OInv L sel i out) (hs : Srt L) (hb : Bi L) (hc : Cst L sel) (hi : i < L.length) (hsel : sel (nxt L i) = false) : OInv L sel (i + 1) out := by
  refine ⟨h.rgt, h.bd, fun n hn => ?_, by have := h.len; omega⟩
  have h1 := nxt_succ hs hb hi
  rw [h.tells n hn]
  constructor
  · rintro ⟨h2, h3⟩
    exact ⟨h2, by omega⟩
  · rintro ⟨h2, h3⟩
    refine ⟨h2, ?_⟩
    rcases Int.lt_or_le n (nxt L i) with h4 | h4
    · exact h4
    · have h5 := hc (nxt L i) n (nxt_I64 hb hi) hn h4 (fun x hx hh => nxt_none hs hi x hx ⟨hh.1, by omega⟩)
      rw [hsel, h2] at h5
      cases h5
theorem OInv.yes {L : List Int} {sel : Int → Bool} {i : Nat} {out : List Rg} (h : OInv L sel i out) (hs : Srt L) (hb : Bi L) (hc : Cst L sel) (hi : i < L.length) (hsel : sel (nxt L i) = true) : OInv L sel (i + 1) (addp out (nxt L i) (nxt L (i + 1) - 1)) := by
  have h1 := nxt_succ hs hb hi
  have hx := nxt_I64 hb hi
  have hh := nxt_hi hs hb hi
  have hl := h.len
  have hM := h.tells
  have hmem : ∀ n, I64 n → (sel n = true ∧ n < nxt L (i + 1) ↔ mem out n ∨ (nxt L i ≤ n ∧ n ≤ nxt L (i + 1) - 1)) := by
    intro n hn
    rw [h.tells n hn]
    constructor
    · rintro ⟨h2, h3⟩
      rcases Int.lt_or_le n (nxt L i) with h4 | h4
      · exact .inl ⟨h2, h4⟩
      · exact .inr ⟨h4, by omega⟩
    · rintro (⟨h2, h3⟩ | ⟨h2, h3⟩)
      · exact ⟨h2, by omega⟩
      · have h5 := hc (nxt L i) n hx hn h2 (fun x hx hh => nxt_none hs hi x hx ⟨hh.1, by omega⟩)
        rw [hsel] at h5
        exact ⟨h5.symm, by omega⟩
  generalize nxt L i = x at *
  generalize hhe : nxt L (i + 1) - 1 = y at *
  rcases snoc_cases out with rfl | ⟨a, k, rfl⟩
  · rw [addp_nil]
    refine ⟨rgt_one.2 (by simp only; omega), Bd.cons.2 ⟨⟨hx, hh⟩, Bd.nil⟩, fun n hn => ?_, by simp⟩
    rw [hmem n hn, mem_one]
    simp [mem_nil]
  · have hbk := h.bd k (by simp)
    have hk := h.rgt.2 k (by simp)
    have hkx := ((hM k.2 hbk.2).1 ⟨k, by simp, hk, Int.le_refl _⟩).2
    have hri := rgt_append.1 h.rgt
    by_cases he : k.2 = x - 1
    · rw [addp_join he]
      refine ⟨rgt_append.2 ⟨hri.1, rgt_one.2 (by simp only; omega), fun s hs t ht => ?_⟩, Bd.append.2 ⟨(Bd.append.1 h.bd).1, Bd.cons.2 ⟨⟨hbk.1, hh⟩, Bd.nil⟩⟩, fun n hn => ?_, by simp at hl ⊢; omega⟩
      · obtain rfl : t = (k.1, y) := by simpa using ht
        exact hri.2.2 s hs k (by simp)
      · rw [hmem n hn, mem_append, mem_append, mem_one, mem_one, or_assoc]
        refine or_congr Iff.rfl ?_
        simp only
        omega
    · rw [addp_apart he]
      refine ⟨rgt_snoc.2 ⟨h.rgt, by simp only; omega, by simp only; omega⟩, Bd.append.2 ⟨h.bd, Bd.cons.2 ⟨⟨hx, hh⟩, Bd.nil⟩⟩, fun n hn => ?_, by simp at hl ⊢; omega⟩
      rw [hmem n hn, mem_append, mem_one]
theorem OInv.fin {L : List Int} {sel : Int → Bool} {out : List Rg} (h : OInv L sel L.length out) : Says out (fun n => sel n = true) :=
  ⟨h.rgt, h.bd, fun n hn => by
    rw [h.tells n hn, nxt_end (Nat.lt_irrefl _)]
    unfold I64 at hn
    exact ⟨fun h => h.1, fun h => ⟨h, by omega⟩⟩⟩
end Go.Proofs.YtjhecpkdpomkmaaGreat

namespace Go.Proofs.YtjhecpkdpomkmaaGreat
open Go.RowKit
set_option linter.unusedVariables false
set_option linter.unusedSimpArgs false
set_option maxRecDepth 100000

/-- block g is a variable of these cells -/
def Bx (W : World) (g : Nat) (cs : Array Value) (t : TypeId) : Prop := W.heap[g]? = some (.cells cs t (0, 0))
theorem Bx.new (w : World) (cs : Array Value) (t : TypeId) : Bx (w.alloc (.cells cs t)) w.heap.size cs t := heap_alloc_new _ _
theorem Bx.lt {w : World} {g : Nat} {cs : Array Value} {t : TypeId} (h : Bx w g cs t) : g < w.heap.size := (Array.getElem?_eq_some_iff.1 h).1
theorem Bx.below {w w' : World} {g : Nat} {cs : Array Value} {t : TypeId} {B : Nat} (h : Bx w g cs t) (ho : Below B w w') (hB : g < B) : Bx w' g cs t := (ho.block g hB).trans h
theorem Bx.alloc {w : World} {g : Nat} {cs : Array Value} {t : TypeId} (h : Bx w g cs t) (o : Obj) : Bx (w.alloc o) g cs t := (Below.heap_alloc w o g h.lt).trans h
theorem Bx.drew {w : World} {g : Nat} {cs : Array Value} {t : TypeId} (h : Bx w g cs t) (n : Nat) : Bx (w.drewN n) g cs t := h
theorem Bx.cell {w : World} {g : Nat} {cs : Array Value} {t : TypeId} (h : Bx w g cs t) (j : Nat) {v : Value} (hj : cs[j]? = some v) : w.cell? ⟨g, j, none⟩ = some v := (cell_of_row w g j cs t _ h).trans hj

/-- a whole variable stored into the block that was made last -/
theorem wpList_store_new {ops : Array Oper} {rest : List Oper} {op : Oper} {a : Act} {w : World} {Q : Exit → Act → World → Prop} (hgd : op.guard = none) (ty : TypeId) (x y : Operand) (ho : op.op = .store ty x y) (k : Nat)
    (c : Array Value) (cs : List Value) (hl : cs.length = k) (hc : c.size = k) (hi : (Tryz.prog.info? ty).map (·.size) = some k) (h1 : ∀ v ∈ cs, v.oneCell' = true)
    (hx : a.eval x = .pointer (some ⟨w.heap.size, 0, none⟩)) (hy : a.eval y = .agg cs.toArray)
    (h : wpList Tryz.prog ops Q rest (a.put op.dst undef) (w.alloc (.cells cs.toArray ty))) : wpList Tryz.prog ops Q (op :: rest) a (w.alloc (.cells c ty)) := by
  refine wpList_plain hgd fun _ hK => ?_
  unfold Oper.wp execOp
  simp only [ho, hx, hy, Instr.storeAt, Instr.sureAddr, Sem.run_bind, Sem.run_pure, Result.andThen_ok, run_storeVar_new (P := Tryz.prog) w ty c cs.toArray (by rw [hi]; simp [hl]) (by simp [hl, hc]) (all_oneCell_toArray h1)]
  exact hK _ _ h
theorem Bx.setRow {w : World} {g : Nat} {c : Array Value} {t : TypeId} (h : Bx w g c t) (cs : Array Value) : Bx (w.setRow g cs) g cs t ∧ Below g w (w.setRow g cs) ∧ (w.setRow g cs).heap.size = w.heap.size ∧ ∀ j, j ≠ g → (w.setRow g cs).heap[j]? = w.heap[j]? := by
  have hj : ∀ j, j ≠ g → (w.setRow g cs).heap[j]? = w.heap[j]? := fun j hj => by
    simp only [World.setRow, Array.getElem?_modify, if_neg (Ne.symm hj)]
  refine ⟨?_, ⟨rfl, rfl, rfl, by simp [World.setRow], fun k hk => hj k (by omega)⟩, by simp [World.setRow], hj⟩
  unfold Bx at h ⊢
  simp [World.setRow, Array.getElem?_modify, h]
/-- a whole variable stored into its block -/
theorem wpList_store_bx {ops : Array Oper} {rest : List Oper} {op : Oper} {a : Act} {w : World} {Q : Exit → Act → World → Prop} (hgd : op.guard = none) (ty : TypeId) (x y : Operand) (ho : op.op = .store ty x y) (k g : Nat)
    (c : Array Value) (cs : List Value) (hb : Bx w g c ty) (hl : cs.length = k) (hc : c.size = k) (hi : (Tryz.prog.info? ty).map (·.size) = some k) (h1 : ∀ v ∈ cs, v.oneCell' = true)
    (hx : a.eval x = .pointer (some ⟨g, 0, none⟩)) (hy : a.eval y = .agg cs.toArray)
    (h : ∀ w', w'.heap.size = w.heap.size → Bx w' g cs.toArray ty → Below g w w' → (∀ j, j ≠ g → w'.heap[j]? = w.heap[j]?) → wpList Tryz.prog ops Q rest (a.put op.dst undef) w') : wpList Tryz.prog ops Q (op :: rest) a w := by
  refine wpList_plain hgd fun _ hK => ?_
  unfold Oper.wp execOp
  simp only [ho, hx, hy, Instr.storeAt, Instr.sureAddr, Sem.run_bind, Sem.run_pure, Result.andThen_ok, run_storeVar_row (P := Tryz.prog) w g ty ty c cs.toArray hb (by rw [hi]; simp [hl]) (by simp [hl, hc]) (all_oneCell_toArray h1)]
  obtain ⟨e1, e2, e3, e4⟩ := hb.setRow cs.toArray
  exact hK _ _ (h _ e3 e1 e2 e4)
theorem Bx.range {w : World} {g : Nat} {cs : List Value} {t : TypeId} (h : Bx w g cs.toArray t) : w.rangeAt g 0 cs := fun j v hv => by
  rw [Nat.zero_add]
  exact h.cell j (by simpa using hv)
theorem wrap_ok {x : Int} (h : I64 x) : IntKind.i64.wrap x = x := by
  have h2 := h
  unfold I64 at h2
  rw [IntKind.wrap_i64]
  omega
theorem wrap_succ {i n : Nat} (h : i < n) (hn : n ≤ 9223372036854775807) : IntKind.i64.wrap ((i : Int) + 1) = ((i + 1 : Nat) : Int) := (wrap_ok (x := (i : Int) + 1) (by unfold I64; omega)).trans (by omega)
/-- the element's address and its cells -/
theorem RowAt.read {B : Nat} {W : World} {a : Option Addr} {n cap k : Nat} {cells : Nat → List Value} (h : RowAt B W a n cap k cells) (t e : TypeId) (hu : Tryz.prog.underlying t = some (.slice e)) (he : Tryz.prog.elem t = e) (hs : ∀ w, (sizeOf e).run Tryz.prog w = .ok k w) {i : Nat} (hi : i < n) :
    ∃ gx ox : Nat, (∀ w, (Instr.indexAt t (.slice a n cap) (.int .i64 (i : Nat))).run Tryz.prog w = .ok (.pointer (some ⟨gx, ox, none⟩)) w) ∧ gx < B ∧ ∀ w : World, w.heap[gx]? = W.heap[gx]? → ∀ j u, (cells i)[j]? = some u → w.cell? ⟨gx, ox + j, none⟩ = some u := by
  obtain ⟨g, o, rfl, hg, hc⟩ := h.2.2.2 (by omega)
  refine ⟨g, o + i * k, fun w => ?_, hg, fun w hw j u hj => ?_⟩
  · rw [run_indexAt_slice (h := by rw [he]; exact hu), if_pos (by omega), he, hs]
    simp [Result.andThen, Addr.add_mid]
  · exact (World.cell?_of_block (w := W) (a := ⟨g, o + i * k + j, none⟩) hw).trans (hc i hi j u hj)
/-- a constraint in a row: its address and its six cells -/
theorem cRow_read {B : Nat} {W : World} {a : Option Addr} {n cap : Nat} {ch : Nat → CT} (h : RowAt B W a n cap 6 (fun i => (ch i).cells)) {i : Nat} (hi : i < n) (hc : CIn B W (ch i)) :
    ∃ gx ox op lo hi low high a' n' cap' ch', ch i = .mk op lo hi low high a' n' cap' ch' ∧ (∀ w, (Instr.indexAt 198 (.slice a n cap) (.int .i64 (i : Nat))).run Tryz.prog w = .ok (.pointer (some ⟨gx, ox, none⟩)) w) ∧ gx < B ∧
      ∀ w : World, w.heap[gx]? = W.heap[gx]? → w.cell? ⟨gx, ox, none⟩ = some (.int .i64 op) ∧ w.cell? ⟨gx, ox + 1, none⟩ = some (.int .i64 lo) ∧ w.cell? ⟨gx, ox + 2, none⟩ = some (.int .i64 hi) ∧ w.cell? ⟨gx, ox + 3, none⟩ = some (.bool low) ∧ w.cell? ⟨gx, ox + 4, none⟩ = some (.bool high) ∧ w.cell? ⟨gx, ox + 5, none⟩ = some (.slice a' n' cap') := by
  obtain ⟨gx, ox, h1, h2, h3⟩ := h.read 198 200 Tryz.underlying198 (by kernel_rfl) Tryz.sizeOf200 hi
  cases hch : ch i with
  | nil => rw [hch] at hc; exact hc.elim
  | mk op lo hi low high a' n' cap' ch' =>
    refine ⟨gx, ox, op, lo, hi, low, high, a', n', cap', ch', rfl, h1, h2, fun w hw => ?_⟩
    have hx := h3 w hw
    rw [hch] at hx
    exact ⟨hx 0 _ rfl, hx 1 _ rfl, hx 2 _ rfl, hx 3 _ rfl, hx 4 _ rfl, hx 5 _ rfl⟩
end Go.Proofs.YtjhecpkdpomkmaaGreat

namespace Go.Proofs.YtjhecpkdpomkmaaGreat
open Go.RowKit
set_option linter.unusedVariables false
set_option linter.unusedSimpArgs false
set_option maxRecDepth 100000

def RSl (w : World) (v : Value) (l : List Rg) : Prop :=
  Bd l ∧ ((∃ g o cap, v = .slice (some ⟨g, o, none⟩) l.length cap ∧ l.length ≤ cap ∧ ∀ i, i < l.length → w.cell? ⟨g, o + i * 2, none⟩ = some (.int .i64 l[i]!.1) ∧ w.cell? ⟨g, o + i * 2 + 1, none⟩ = some (.int .i64 l[i]!.2)) ∨ (l = [] ∧ ∃ a cap, v = .slice a 0 cap))
theorem RSl.bd {w : World} {v : Value} {l : List Rg} (h : RSl w v l) : Bd l := h.1
theorem RSl.below {w w' : World} {v : Value} {l : List Rg} (h : RSl w v l) (hb : Below w.heap.size w w') : RSl w' v l := by
  refine ⟨h.1, ?_⟩
  rcases h.2 with ⟨g, o, cap, e, hc, hd⟩ | h
  · refine .inl ⟨g, o, cap, e, hc, fun i hi => ?_⟩
    have hg := World.block_lt_of_cell? w _ (hd i hi).1
    rw [← (hd i hi).1, ← (hd i hi).2]
    exact ⟨World.cell?_of_block (w := w) (hb.block g hg), World.cell?_of_block (w := w) (hb.block g hg)⟩
  · exact .inr h
theorem RSl.shape {w : World} {v : Value} {l : List Rg} (h : RSl w v l) : ∃ a cap, v = .slice a l.length cap := by
  rcases h.2 with ⟨g, o, cap, e, _⟩ | ⟨rfl, a, cap, e⟩
  · exact ⟨_, _, e⟩
  · exact ⟨_, _, e⟩
/-- a slice with an element: where it lies -/
theorem RSl.at {w : World} {v : Value} {l : List Rg} (h : RSl w v l) (hl : 0 < l.length) : ∃ g o cap, v = .slice (some ⟨g, o, none⟩) l.length cap ∧ l.length ≤ cap ∧ g < w.heap.size ∧ ∀ i, i < l.length → w.cell? ⟨g, o + i * 2, none⟩ = some (.int .i64 l[i]!.1) ∧ w.cell? ⟨g, o + i * 2 + 1, none⟩ = some (.int .i64 l[i]!.2) := by
  rcases h.2 with ⟨g, o, cap, e, hc, hd⟩ | ⟨rfl, _⟩
  · exact ⟨g, o, cap, e, hc, World.block_lt_of_cell? w _ (hd 0 hl).1, hd⟩
  · simp at hl
theorem Bd.get {l : List Rg} (h : Bd l) {i : Nat} (hi : i < l.length) : I64 l[i]!.1 ∧ I64 l[i]!.2 := by
  rw [getElem!_pos l i hi]
  exact h _ (List.getElem_mem hi)
set_option maxHeartbeats 1000000 in
theorem isEmpty_ok (x y : Int) (w : World) : Calls Tryz.prog 292 #[.agg #[.int .i64 x, .int .i64 y]] w fun e w' => e = .returned (.bool (decide (y < x))) ∧ Below w.heap.size w w' := by
  have HB := Lib.hid ((Below.refl w.heap.size w).alloc (Nat.le_refl _) (.cells #[.int .i64 x, .int .i64 y] 66))
  by_cases h : y < x
  · have q : decide (y < x) = true := decide_eq_true h
    rw [q]
    go_enter Tryz.func292, Tryz.ntmps292
    go_wp2_with fail
    go_ret
    exact ⟨rfl, HB.out⟩
  · have q : decide (y < x) = false := decide_eq_false h
    rw [q]
    go_enter Tryz.func292, Tryz.ntmps292
    go_wp2_with fail
    go_ret
    exact ⟨rfl, HB.out⟩
/-- two ranges that are boxed -/
theorem two_boxed (x1 x2 y1 y2 : Int) (w : World) : ∃ W, (w.alloc (.cells #[.int .i64 x1, .int .i64 x2] 66)).alloc (.cells #[.int .i64 y1, .int .i64 y2] 66) = W ∧
    W.cell? ⟨w.heap.size, 0, none⟩ = some (.int .i64 x1) ∧ W.cell? ⟨w.heap.size, 1, none⟩ = some (.int .i64 x2) ∧ W.cell? ⟨w.heap.size + 1, 0, none⟩ = some (.int .i64 y1) ∧ W.cell? ⟨w.heap.size + 1, 1, none⟩ = some (.int .i64 y2) ∧ Below w.heap.size w W := by
  have e : w.heap.size + 1 = (w.alloc (.cells #[.int .i64 x1, .int .i64 x2] 66)).heap.size := by simp
  refine ⟨_, rfl, Lib.cell?_alloc_some _ (by simp), Lib.cell?_alloc_some _ (by simp), ?_, ?_, ((Below.refl w.heap.size w).alloc (Nat.le_refl _) _).alloc (by simp) _⟩
  · rw [e]; simp only [World.cell?_alloc_new]; simp
  · rw [e]; simp
set_option maxHeartbeats 1000000 in
theorem isApart_ok (x1 x2 y1 y2 : Int) (w : World) (hx : I64 x2) (hy : I64 y1) : Calls Tryz.prog 298 #[.agg #[.int .i64 x1, .int .i64 x2], .agg #[.int .i64 y1, .int .i64 y2]] w fun e w' => e = .returned (.bool (decide (x2 + 1 < y1))) ∧ Below w.heap.size w w' := by
  obtain ⟨W, hW, c1, c2, c3, c4, hB⟩ := two_boxed x1 x2 y1 y2 w
  have HW := Lib.hid hW
  have HB := Lib.hid hB
  clear hW hB
  by_cases h1 : x2 < y1
  · have q1 : decide (x2 < y1) = true := decide_eq_true h1
    have q2 : IntKind.i64.wrap (x2 + 1) = x2 + 1 := wrap_ok (by unfold I64 at *; omega)
    by_cases h2 : x2 + 1 < y1
    · have q3 : decide (x2 + 1 < y1) = true := decide_eq_true h2
      rw [q3]
      go_enter Tryz.func298, Tryz.ntmps298
      go_upto_region 1 with fail
      change Code.wp _ _ _ _ ((w.alloc _).alloc _)
      rw [HW.out]
      go_wp2_with fail
      go_ret
      exact ⟨rfl, HB.out⟩
    have q3 : decide (x2 + 1 < y1) = false := decide_eq_false h2
    rw [q3]
    go_enter Tryz.func298, Tryz.ntmps298
    go_upto_region 1 with fail
    change Code.wp _ _ _ _ ((w.alloc _).alloc _)
    rw [HW.out]
    go_wp2_with fail
    go_ret
    exact ⟨rfl, HB.out⟩
  · have q1 : decide (x2 < y1) = false := decide_eq_false h1
    rw [show decide (x2 + 1 < y1) = false from decide_eq_false (by omega)]
    go_enter Tryz.func298, Tryz.ntmps298
    go_upto_region 1 with fail
    change Code.wp _ _ _ _ ((w.alloc _).alloc _)
    rw [HW.out]
    go_wp2_with fail
    go_ret
    exact ⟨rfl, HB.out⟩
end Go.Proofs.YtjhecpkdpomkmaaGreat

namespace Go.Proofs.YtjhecpkdpomkmaaGreat
open Go.RowKit
set_option linter.unusedVariables false
set_option linter.unusedSimpArgs false
set_option maxRecDepth 100000

/-- what is left after k rounds -/
def fewN (g : Nat → Int → Int) : Nat → Int → Int
  | 0, x => x
  | k + 1, x => if 0 ≤ fewN g k x then g k (fewN g k x) else fewN g k x
def CT.few : CT → Int → Int
  | .nil, x => x
  | .mk _ _ _ _ _ _ n _ ch, x => fewN (fun i y => (ch i).few y) n (x - 1)
theorem fewN_bounds {g : Nat → Int → Int} {n : Nat} (hg : ∀ i, i < n → ∀ y, 0 ≤ y → -1 ≤ g i y ∧ g i y ≤ y) : ∀ k, k ≤ n → ∀ x, min x (-1) ≤ fewN g k x ∧ fewN g k x ≤ x
  | 0, _, x => by simp only [fewN]; omega
  | k + 1, hk, x => by
    have h := fewN_bounds hg k (by omega) x
    simp only [fewN]
    split
    · have := hg k (by omega) _ (by assumption)
      omega
    · exact h
theorem fewN_stop {g : Nat → Int → Int} {k : Nat} {x : Int} (h : fewN g k x < 0) : ∀ n, k ≤ n → fewN g n x = fewN g k x
  | 0, hn => by obtain rfl : k = 0 := by omega
                rfl
  | n + 1, hn => by
    rcases Nat.lt_or_ge k (n + 1) with h1 | h1
    · have := fewN_stop h n (by omega)
      simp only [fewN]
      rw [if_neg (by omega), this]
    · obtain rfl : k = n + 1 := by omega
      rfl
theorem CT.few_bounds : ∀ (c : CT) (x : Int), min (x - 1) (-1) ≤ c.few x ∧ c.few x ≤ x
  | .nil, x => by simp only [CT.few]; omega
  | .mk _ _ _ _ _ _ n _ ch, x => by
    have := fewN_bounds (g := fun i y => (ch i).few y) (n := n) (fun i _ y hy => by have h2 := CT.few_bounds (ch i) y; show -1 ≤ (ch i).few y ∧ (ch i).few y ≤ y; omega) n (Nat.le_refl _) (x - 1)
    simp only [CT.few]
    omega
def RelFC (w : World) (B : Nat) (n : Nat) (ch : Nat → CT) (x : Int) (g : Nat) (cs : Array Value) (xv iv : Value) (wr : World) : Prop :=
  ∃ (i : Nat), i ≤ n ∧ iv = .int .i64 (i : Nat) ∧ xv = .int .i64 (fewN (fun i y => (ch i).few y) i x) ∧ Bx wr g cs 200 ∧ Below w.heap.size w wr
end Go.Proofs.YtjhecpkdpomkmaaGreat

namespace Go.Proofs.YtjhecpkdpomkmaaGreat
open Go.RowKit
set_option linter.unusedVariables false
set_option linter.unusedSimpArgs false
set_option maxRecDepth 100000

/-! ### one of the first n -/
def anyN (f : Nat → Bool) (n : Nat) : Bool := !allN (fun i => !f i) n
theorem anyN_iff {f : Nat → Bool} {n : Nat} : anyN f n = true ↔ ∃ i, i < n ∧ f i = true := by
  unfold anyN
  rw [Bool.not_eq_true', Bool.eq_false_iff, Ne, allN_iff]
  constructor
  · intro h
    apply Classical.byContradiction
    intro h2
    refine h fun i hi => ?_
    cases hf : f i with
    | true => exact absurd ⟨i, hi, hf⟩ h2
    | false => rfl
  · rintro ⟨i, hi, hf⟩ h
    have := h i hi
    rw [hf] at this
    cases this
theorem anyN_yes {f : Nat → Bool} {i n : Nat} (hi : i < n) (hf : f i = true) : anyN f n = true := anyN_iff.2 ⟨i, hi, hf⟩
theorem anyN_no {f : Nat → Bool} {n : Nat} (h : ∀ i, i < n → f i = false) : anyN f n = false := by
  cases hb : anyN f n with
  | false => rfl
  | true =>
    obtain ⟨i, hi, hf⟩ := anyN_iff.1 hb
    rw [h i hi] at hf
    cases hf
/-- 'one of' or 'all of' the first n -/
def foldU (u : Bool) (f : Nat → Bool) (n : Nat) : Bool := if u then anyN f n else allN f n
def comb (u : Bool) (p q : Prop) : Prop := if u then p ∨ q else p ∧ q
theorem comb_congr (u : Bool) {p q p' q' : Prop} (h : p ↔ p') (h2 : q ↔ q') : comb u p q ↔ comb u p' q' := by
  unfold comb
  cases u <;> simp [h, h2]
theorem foldU_one (u : Bool) (f : Nat → Bool) : foldU u f 1 = f 0 := by
  unfold foldU anyN
  cases u <;> simp [allN]
theorem foldU_zero (u : Bool) (f : Nat → Bool) : foldU u f 0 = !u := by
  unfold foldU anyN
  cases u <;> simp [allN]
theorem foldU_split (u : Bool) (f : Nat → Bool) (h n : Nat) (hh : h ≤ n) : foldU u f n = true ↔ comb u (foldU u f h = true) (foldU u (fun i => f (h + i)) (n - h) = true) := by
  unfold foldU comb
  cases u with
  | true =>
    simp only [if_true]
    rw [anyN_iff, anyN_iff, anyN_iff]
    constructor
    · rintro ⟨i, hi, hf⟩
      rcases Nat.lt_or_ge i h with h1 | h1
      · exact .inl ⟨i, h1, hf⟩
      · exact .inr ⟨i - h, by omega, by rw [show h + (i - h) = i by omega]; exact hf⟩
    · rintro (⟨i, hi, hf⟩ | ⟨i, hi, hf⟩)
      · exact ⟨i, by omega, hf⟩
      · exact ⟨h + i, by omega, hf⟩
  | false =>
    simp only [if_neg (by decide : ¬ (false = true))]
    rw [allN_iff, allN_iff, allN_iff]
    constructor
    · exact fun h1 => ⟨fun i hi => h1 i (by omega), fun i hi => h1 (h + i) (by omega)⟩
    · rintro ⟨h1, h2⟩ i hi
      rcases Nat.lt_or_ge i h with h3 | h3
      · exact h1 i h3
      · have := h2 (i - h) (by omega)
        rwa [show h + (i - h) = i by omega] at this

/-! ### which numbers are let in, so many levels deep -/
def adm : CT → Nat → Int → Bool
  | .nil, _, _ => false
  | .mk op lo hi low high _ n _ ch, k, x =>
    match k with
    | 0 => false
    | k + 1 =>
      if op = 0 then true
      else if op = 1 then (low || decide (lo ≤ x)) && (high || decide (x ≤ hi))
      else if op = 2 then anyN (fun i => adm (ch i) k x) n
      else if op = 3 then allN (fun i => adm (ch i) k x) n
      else if op = 4 then allN (fun i => adm (ch i) k x == decide (i = 0)) n
      else false
section
variable (op lo hi : Int) (low high : Bool) (a : Option Addr) (n cap : Nat) (ch : Nat → CT) (k : Nat) (x : Int)
theorem adm_zero (c : CT) : adm c 0 x = false := by cases c <;> rfl
theorem adm_all : adm (.mk 0 lo hi low high a n cap ch) (k + 1) x = true := rfl
theorem adm_span : adm (.mk 1 lo hi low high a n cap ch) (k + 1) x = ((low || decide (lo ≤ x)) && (high || decide (x ≤ hi))) := rfl
theorem adm_union : adm (.mk 2 lo hi low high a n cap ch) (k + 1) x = anyN (fun i => adm (ch i) k x) n := rfl
theorem adm_meet : adm (.mk 3 lo hi low high a n cap ch) (k + 1) x = allN (fun i => adm (ch i) k x) n := rfl
theorem adm_except : adm (.mk 4 lo hi low high a n cap ch) (k + 1) x = allN (fun i => adm (ch i) k x == decide (i = 0)) n := rfl
theorem adm_other (h0 : op ≠ 0) (h1 : op ≠ 1) (h2 : op ≠ 2) (h3 : op ≠ 3) (h4 : op ≠ 4) : adm (.mk op lo hi low high a n cap ch) (k + 1) x = false := by
  simp only [adm, if_neg h0, if_neg h1, if_neg h2, if_neg h3, if_neg h4]
end
theorem except_iff (f : Nat → Bool) (n : Nat) : allN (fun i => f i == decide (i = 0)) n = true ↔ foldU false f (min 1 n) = true ∧ ¬ foldU true (fun i => f (min 1 n + i)) (n - min 1 n) = true := by
  rw [allN_iff]
  unfold foldU
  simp only [if_true, if_neg (by decide : ¬ (false = true))]
  rw [allN_iff, anyN_iff]
  constructor
  · intro h
    refine ⟨fun i hi => ?_, ?_⟩
    · have := h i (by omega)
      obtain rfl : i = 0 := by omega
      simpa using this
    · rintro ⟨i, hi, hf⟩
      have := h (min 1 n + i) (by omega)
      rw [hf, decide_eq_false (by omega)] at this
      cases this
  · rintro ⟨h1, h2⟩ i hi
    rcases Nat.eq_zero_or_pos i with rfl | h0
    · have := h1 0 (by omega)
      rw [this]
      rfl
    · rw [decide_eq_false (by omega)]
      cases hf : f i with
      | false => rfl
      | true => exact absurd ⟨i - min 1 n, by omega, by rw [show min 1 n + (i - min 1 n) = i by omega]; exact hf⟩ h2

/-! ### how many pieces -/
def sumN (f : Nat → Nat) : Nat → Nat
  | 0 => 0
  | n + 1 => sumN f n + f n
theorem sumN_split (f : Nat → Nat) (h : Nat) : ∀ m, sumN f (h + m) = sumN f h + sumN (fun i => f (h + i)) m
  | 0 => rfl
  | m + 1 => by
    show sumN f (h + m) + f (h + m) = _
    rw [sumN_split f h m]
    simp only [sumN]
    omega
theorem sumN_cut (f : Nat → Nat) (h n : Nat) (hh : h ≤ n) : sumN f n = sumN f h + sumN (fun i => f (h + i)) (n - h) := by
  rw [← sumN_split, show h + (n - h) = n by omega]
theorem sumN_le (f : Nat → Nat) : ∀ {n i : Nat}, i < n → f i ≤ sumN f n
  | 0, _, h => absurd h (Nat.not_lt_zero _)
  | n + 1, i, h => by
    simp only [sumN]
    rcases Nat.lt_or_ge i n with h1 | h1
    · have := sumN_le f h1
      omega
    · obtain rfl : i = n := by omega
      omega
theorem sumN_one (f : Nat → Nat) : sumN f 1 = f 0 := by simp [sumN]
def CT.sz : CT → Nat
  | .nil => 0
  | .mk _ _ _ _ _ _ n _ ch => 1 + sumN (fun i => (ch i).sz) n
theorem CT.sz_mk (op lo hi : Int) (low high : Bool) (a : Option Addr) (n cap : Nat) (ch : Nat → CT) : (CT.mk op lo hi low high a n cap ch).sz = 1 + sumN (fun i => (ch i).sz) n := rfl
end Go.Proofs.YtjhecpkdpomkmaaGreat

namespace Go.Proofs.YtjhecpkdpomkmaaGreat

def eLo (r : List Rg) : Int := if r.length = 0 then 0 else r[0]!.1
def eHi (r : List Rg) : Int := if r.length = 0 then 0 else r[r.length - 1]!.2
def eOk (r : List Rg) : Bool := decide (0 < r.length)
def isSz (k : Int) : Bool := k == 5 || k == 6 || k == 7 || k == 9
end Go.Proofs.YtjhecpkdpomkmaaGreat

namespace Go.Proofs.YtjhecpkdpomkmaaGreat
open Go.RowKit
set_option linter.unusedVariables false
set_option linter.unusedSimpArgs false
set_option maxRecDepth 100000

/-- a predicate in memory: in each world that keeps what lay in w, called with the i-th value it tells p i -/
def PredN (w : World) (fn : FuncId) (first cap : Array Value) (n : Nat) (v : Nat → Value) (p : Nat → Bool) : Prop :=
  ∀ i, i < n → ∀ w', Below w.heap.size w w' → Calls Tryz.prog fn (first ++ #[v i] ++ cap) w' fun e w'' => e = .returned (.bool (p i)) ∧ Below w'.heap.size w' w''
def RelEv (w : World) (n : Nat) (p : Nat → Bool) (iv : Value) (wr : World) : Prop := ∃ i : Nat, i ≤ n ∧ iv = .int .i64 (i : Nat) ∧ allN p i = true ∧ Below w.heap.size w wr
/-- a value in a row -/
theorem vRow_read {B : Nat} {W : World} {a : Option Addr} {n cap : Nat} {ch : Nat → VT} (h : RowAt B W a n cap 5 (fun i => (ch i).cells)) {i : Nat} (hi : i < n) (hc : VIn B W (ch i)) :
    ∃ gx ox kd m s na nn ncap nf a' n' cap' ch', ch i = .mk kd m s ⟨na, nn, ncap, nf⟩ a' n' cap' ch' ∧ (∀ w, (Instr.indexAt 24 (.slice a n cap) (.int .i64 (i : Nat))).run Tryz.prog w = .ok (.pointer (some ⟨gx, ox, none⟩)) w) ∧ gx < B ∧
      ∀ w : World, w.heap[gx]? = W.heap[gx]? → w.cell? ⟨gx, ox, none⟩ = some (.int .i64 kd) ∧ w.cell? ⟨gx, ox + 1, none⟩ = some (.int .i64 m) ∧ w.cell? ⟨gx, ox + 2, none⟩ = some (.string s) ∧ w.cell? ⟨gx, ox + 3, none⟩ = some (.slice na nn ncap) ∧ w.cell? ⟨gx, ox + 4, none⟩ = some (.slice a' n' cap') := by
  obtain ⟨gx, ox, h1, h2, h3⟩ := h.read 24 26 Tryz.underlying24 (by kernel_rfl) Tryz.sizeOf26 hi
  cases hch : ch i with
  | nil => rw [hch] at hc; exact hc.elim
  | mk kd m s nm a' n' cap' ch' =>
    obtain ⟨na, nn, ncap, nf⟩ := nm
    refine ⟨gx, ox, kd, m, s, na, nn, ncap, nf, a', n', cap', ch', rfl, h1, h2, fun w hw => ?_⟩
    have hx := h3 w hw
    rw [hch] at hx
    exact ⟨hx 0 _ rfl, hx 1 _ rfl, hx 2 _ rfl, hx 3 _ rfl, hx 4 _ rfl⟩
/-- a type in a row -/
theorem TIn.open {B : Nat} {W : World} {t : TT} (h : TIn B W t) : ∃ kd' tn' op' lo' hi' lw' hg' ca' cn' cc' cch' ext' fr' sa' sn' sc' sf' ma' mn' mc' mf' pa' pn' pc' pf' ptf' aa' an' ac' af' atf' ea' en' ec' etf', t = .mk kd' tn' (.mk op' lo' hi' lw' hg' ca' cn' cc' cch') ext' fr' ⟨sa', sn', sc', sf'⟩ ⟨ma', mn', mc', mf'⟩ ⟨pa', pn', pc', pf'⟩ ptf' ⟨aa', an', ac', af'⟩ atf' ea' en' ec' etf' := by
  cases t with
  | nil => exact h.elim
  | mk kd tn con ext fr nm mo pa pt ad at_ ea en ec et =>
    cases con with
    | nil => exact h.1.2.2.1.elim
    | mk op lo hi lw hg ca cn cc cch => exact ⟨_, _, _, _, _, _, _, _, _, _, _, _, _, _, _, _, _, _, _, _, _, _, _, _, _, _, _, _, _, _, _, _, _, _, _, rfl⟩
/-- a part's value -/
def pval (p : PD) (t : TT) : Value := .agg (pcells p t).toArray
end Go.Proofs.YtjhecpkdpomkmaaGreat
