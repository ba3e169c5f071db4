/-
  Tags: the graph as it lies in memory; no walk here.
-/
import Derived.Test.YtecedbjkebdeaaaTgP
import Derived.Test.YtecedbjkebdeaaaTgS2
import Derived.Deep.AppendLies
namespace Go.Proofs.Ytecedbjkebdeaaa
open Go.RowKit Go.Maps Go.WideElems Go.ChangeMaps Go.MapKept
set_option linter.unusedVariables false
set_option linter.unusedSimpArgs false
set_option maxRecDepth 100000

/-- what a block is there for -/
inductive Role where
  | no | st | pm | rr | sr | vr | qr
  | s (n : Nat)
  | v (n : Nat)
structure GV where
  pm : Option Nat
  rv : Value
  sv : Value
  vv : Value
  qv : Value
  sm : Nat → Option Nat
  ev : Nat → Value
  own : Nat → Role
def nv (n : Nat) : Value := .int .i64 (n : Nat)
def gcells (l : EL) (G : GL) (V : GV) : Array Value := #[.slice l.a l.n l.cap, .map V.pm, V.rv, V.sv, V.vv, V.qv, .int .i64 (G.most : Nat)]
/-- a map of places -/
def PlAt (w : World) (k : Nat) (l : EL) : Prop :=
  ∃ D : DataW Unit, w.ownsMap Try.prog 9 (plainElem Try.prog 3) k l.n D ∧ ∀ s : ByteArray, s.size ≤ 9223372036854775807 → has D (.string s.data.toList) = (l.fnd s).isSome ∧ ∀ p, l.fnd s = some p → D.atKey (.string s.data.toList) (.lit (.int .i64 0)) = .lit (.int .i64 (p : Nat))
theorem PlAt.block {w w' : World} {k : Nat} {l : EL} (h : PlAt w k l) (hb : w'.heap[k]? = w.heap[k]?) : PlAt w' k l := by
  obtain ⟨D, ⟨es, clock, h1, h2⟩, h3⟩ := h
  exact ⟨D, ⟨es, clock, hb.trans h1, h2⟩, h3⟩
theorem own_block {w w' : World} {B : Nat} {e : TypeId} {s n : Nat} {v : Value} {xs : List Value} (h : w.ownsRow B e s v n xs) (hb : ∀ k, v.ownBlock = some k → w'.heap[k]? = w.heap[k]?) : w'.ownsRow B e s v n xs := by
  refine ⟨h.1, ?_⟩
  rcases h.2 with hn | ⟨g, cap, cur, rfl, hbg, hg, rest⟩
  · exact .inl hn
  · exact .inr ⟨g, cap, cur, rfl, hbg, (hb g rfl).trans hg, rest⟩
/-- the graph in memory; L: which sets are made -/
structure GAtL (B : Nat) (w : World) (b : Nat) (l : EL) (G : GL) (L : Nat → Prop) (V : GV) : Prop where
  bx : Bx w b (gcells l G V) 60
  ob : V.own b = .st
  lo : ∀ k, V.own k ≠ .no → B ≤ k ∧ k < w.heap.size
  r : w.ownsRow B 3 1 V.rv G.R.length (G.R.map nv)
  ro : ∀ k, V.rv.ownBlock = some k → V.own k = .rr
  s : w.ownsRow B 52 1 V.sv G.m ((List.range G.m).map fun n => .map (V.sm n))
  so : ∀ k, V.sv.ownBlock = some k → V.own k = .sr
  v : w.ownsRow B 37 1 V.vv G.m ((List.range G.m).map V.ev)
  vo : ∀ k, V.vv.ownBlock = some k → V.own k = .vr
  q : w.ownsRow B 3 1 V.qv G.Q.length (G.Q.map nv)
  qo : ∀ k, V.qv.ownBlock = some k → V.own k = .qr
  sets : ∀ n, n < G.m → (L n → ∃ k, V.sm n = some k ∧ V.own k = .s n ∧ SetAt w k (G.S n)) ∧ (¬ L n → V.sm n = none)
  eds : ∀ n, n < G.m → w.ownsRow B 3 1 (V.ev n) (G.E n).length ((G.E n).map nv) ∧ ∀ k, (V.ev n).ownBlock = some k → V.own k = .v n
  pl : ∀ k, V.pm = some k → V.own k = .pm ∧ PlAt w k l
/-- nothing turns but what the graph owns; what is new may be the graph's -/
structure Mv (own : Nat → Role) (w : World) (own' : Nat → Role) (w' : World) : Prop where
  os : w'.os = w.os
  tape : w'.tape = w.tape
  output : w'.output = w.output
  size : w.heap.size ≤ w'.heap.size
  block : ∀ k, k < w.heap.size → own k = .no → w'.heap[k]? = w.heap[k]? ∧ own' k = .no
theorem Mv.refl (own : Nat → Role) (w : World) : Mv own w own w := ⟨rfl, rfl, rfl, Nat.le_refl _, fun _ _ h => ⟨rfl, h⟩⟩
theorem Mv.trans {o1 o2 o3 : Nat → Role} {w1 w2 w3 : World} (h : Mv o1 w1 o2 w2) (k : Mv o2 w2 o3 w3) : Mv o1 w1 o3 w3 :=
  ⟨k.os.trans h.os, k.tape.trans h.tape, k.output.trans h.output, Nat.le_trans h.size k.size, fun i hi ho => by
    have h1 := h.block i hi ho
    have h2 := k.block i (Nat.lt_of_lt_of_le hi h.size) h1.2
    exact ⟨h2.1.trans h1.1, h2.2⟩⟩
/-- the graph in memory: made are the sets of what is reached, or added -/
def GAt (B : Nat) (w : World) (b : Nat) (l : EL) (G : GL) (V : GV) : Prop := GAtL B w b l G (G.live l) V
theorem GAtL.below {B : Nat} {w w' : World} {b : Nat} {l : EL} {G : GL} {L : Nat → Prop} {V : GV} (h : GAtL B w b l G L V) {own' : Nat → Role} (k : Mv V.own w own' w') (hB : B ≤ w.heap.size) : Below B w w' :=
  ⟨k.os, k.tape, k.output, k.size, fun i hi => by
    by_cases ho : V.own i = .no
    · exact (k.block i (by omega) ho).1
    · have := (h.lo i ho).1
      omega⟩
/-- blocks of other roles turn, or none -/
theorem GAtL.keep {B : Nat} {w w' : World} {b : Nat} {l : EL} {G : GL} {L : Nat → Prop} {V : GV} (h : GAtL B w b l G L V) (hs : w.heap.size ≤ w'.heap.size) (hb : ∀ k, V.own k ≠ .no → w'.heap[k]? = w.heap[k]?) : GAtL B w' b l G L V where
  bx := (hb b (by rw [h.ob]; nofun)).trans h.bx
  ob := h.ob
  lo := fun k hk => ⟨(h.lo k hk).1, Nat.lt_of_lt_of_le (h.lo k hk).2 hs⟩
  r := own_block h.r (fun k hk => hb k (by rw [h.ro k hk]; nofun))
  ro := h.ro
  s := own_block h.s (fun k hk => hb k (by rw [h.so k hk]; nofun))
  so := h.so
  v := own_block h.v (fun k hk => hb k (by rw [h.vo k hk]; nofun))
  vo := h.vo
  q := own_block h.q (fun k hk => hb k (by rw [h.qo k hk]; nofun))
  qo := h.qo
  sets := fun n hn => ⟨fun hl => by
    obtain ⟨k, h1, h2, h3⟩ := (h.sets n hn).1 hl
    exact ⟨k, h1, h2, h3.block (hb k (by rw [h2]; nofun))⟩, (h.sets n hn).2⟩
  eds := fun n hn => ⟨own_block (h.eds n hn).1 (fun k hk => hb k (by rw [(h.eds n hn).2 k hk]; nofun)), (h.eds n hn).2⟩
  pl := fun k hk => ⟨(h.pl k hk).1, (h.pl k hk).2.block (hb k (by rw [(h.pl k hk).1]; nofun))⟩
theorem GAtL.alloc {B : Nat} {w : World} {b : Nat} {l : EL} {G : GL} {L : Nat → Prop} {V : GV} (h : GAtL B w b l G L V) (o : Obj) : GAtL B (w.alloc o) b l G L V :=
  h.keep (by simp) (fun k hk => Below.heap_alloc w o k (h.lo k hk).2)
theorem Mv.alloc (own : Nat → Role) (w : World) (o : Obj) (h : ∀ k, own k ≠ .no → k < w.heap.size) : Mv own w own (w.alloc o) :=
  ⟨rfl, rfl, rfl, by simp, fun k hk ho => ⟨Below.heap_alloc w o k hk, ho⟩⟩
theorem GAtL.of_below {B : Nat} {w w' : World} {b : Nat} {l : EL} {G : GL} {L : Nat → Prop} {V : GV} (h : GAtL B w b l G L V) (hb : Below w.heap.size w w') : GAtL B w' b l G L V ∧ Mv V.own w V.own w' :=
  ⟨h.keep hb.size (fun k hk => hb.block k (h.lo k hk).2), ⟨hb.os, hb.tape, hb.output, hb.size, fun k hk ho => ⟨hb.block k hk, ho⟩⟩⟩
def setOwn (own : Nat → Role) (g : Nat) (ρ : Role) : Nat → Role := fun k => if k = g then ρ else own k
theorem setOwn_ne {own : Nat → Role} {g k : Nat} {ρ : Role} (h : k ≠ g) : setOwn own g ρ k = own k := by unfold setOwn; rw [if_neg h]
theorem setOwn_self {own : Nat → Role} {g : Nat} {ρ : Role} : setOwn own g ρ g = ρ := by unfold setOwn; rw [if_pos rfl]
/-- a row is grown, and stored into its field j: what stays. ρ: its role; g: its block now -/
structure Grew (own : Nat → Role) (ρ : Role) (w w1 : World) (row : Option Nat) (g : Nat) : Prop where
  os : w1.os = w.os
  tape : w1.tape = w.tape
  output : w1.output = w.output
  size : w.heap.size ≤ w1.heap.size
  block : ∀ k, k < w.heap.size → own k ≠ ρ → w1.heap[k]? = w.heap[k]?
  at_ : own g = ρ ∨ w.heap.size ≤ g
  lt : g < w1.heap.size
theorem Grew.of {own : Nat → Role} {ρ : Role} {w w1 : World} {row : Option Nat} {g : Nat} (hg : w.grownBy w1 row) (ho : ∀ k, row = some k → own k = ρ) (hat : row = some g ∨ g = w.heap.size) (hlt : g < w1.heap.size) : Grew own ρ w w1 row g :=
  ⟨hg.os, hg.tape, hg.output, hg.size, fun k hk hr => hg.block k hk (fun e => hr (ho k e.symm)), hat.imp (fun h => ho g h) (fun h => by omega), hlt⟩
/-- behind it: a field of the struct is stored -/
theorem heap_field {w : World} {b j : Nat} {v : Value} {k : Nat} (h : k ≠ b) : (w.setCell ⟨b, j, none⟩ v).heap[k]? = w.heap[k]? := Below.heap_setCell w ⟨b, j, none⟩ v k h
theorem size_field {w : World} {b j : Nat} {v : Value} : (w.setCell ⟨b, j, none⟩ v).heap.size = w.heap.size := by simp [World.setCell]
theorem bx_field {w : World} {b : Nat} {cs : Array Value} {t : TypeId} (h : Bx w b cs t) (j : Nat) (v : Value) : Bx (w.setCell ⟨b, j, none⟩ v) b (cs.setIfInBounds j v) t := by
  rw [setCell_eq_setRow w b j cs t (0, 0) v h]
  exact setRow_heap w b cs _ t _ h
section
variable {B : Nat} {w w1 : World} {b : Nat} {l : EL} {G : GL} {L : Nat → Prop} {V : GV} {ρ : Role} {row : Option Nat} {g j : Nat} {u : Value}
/-- what stays, behind a row that has grown and a field that is stored -/
theorem Grew.stay (hg : Grew V.own ρ w w1 row g) (h : GAtL B w b l G L V) (k : Nat) (hk : V.own k ≠ .no) (hr : V.own k ≠ ρ) (hb : V.own k ≠ .st) : (w1.setCell ⟨b, j, none⟩ u).heap[k]? = w.heap[k]? ∧ setOwn V.own g ρ k = V.own k := by
  have hlt := (h.lo k hk).2
  refine ⟨(heap_field (fun e => hb (by rw [e, h.ob]))).trans (hg.block k hlt hr), setOwn_ne fun e => ?_⟩
  rcases hg.at_ with h1 | h1
  · exact hr (by rw [e, h1])
  · omega
theorem Grew.nb (hg : Grew V.own ρ w w1 row g) (h : GAtL B w b l G L V) (hρ : ρ ≠ .st) : g ≠ b := by
  intro e
  have hlt := h.bx.lt
  rcases hg.at_ with h1 | h1
  · rw [e, h.ob] at h1; exact hρ h1.symm
  · omega
theorem Grew.bx (hg : Grew V.own ρ w w1 row g) (h : GAtL B w b l G L V) (hρ : ρ ≠ .st) : Bx (w1.setCell ⟨b, j, none⟩ u) b ((gcells l G V).setIfInBounds j u) 60 :=
  bx_field ((hg.block b h.bx.lt (by rw [h.ob]; exact fun e => hρ e.symm)).trans h.bx) j u
theorem Grew.ob (hg : Grew V.own ρ w w1 row g) (h : GAtL B w b l G L V) (hρ : ρ ≠ .st) : setOwn V.own g ρ b = .st := by rw [setOwn_ne (hg.nb h hρ).symm]; exact h.ob
theorem Grew.lo (hg : Grew V.own ρ w w1 row g) (h : GAtL B w b l G L V) (hρ : ρ ≠ .no) (hB : B ≤ w.heap.size) : ∀ k, setOwn V.own g ρ k ≠ .no → B ≤ k ∧ k < (w1.setCell ⟨b, j, none⟩ u).heap.size := by
  intro k hk
  rw [size_field]
  by_cases e : k = g
  · subst e
    refine ⟨?_, hg.lt⟩
    rcases hg.at_ with h1 | h1
    · exact (h.lo k (by rw [h1]; exact hρ)).1
    · omega
  · rw [setOwn_ne e] at hk
    exact ⟨(h.lo k hk).1, Nat.lt_of_lt_of_le (h.lo k hk).2 hg.size⟩
theorem Grew.mv (hg : Grew V.own ρ w w1 row g) (h : GAtL B w b l G L V) (hρ : ρ ≠ .no) : Mv V.own w (setOwn V.own g ρ) (w1.setCell ⟨b, j, none⟩ u) :=
  ⟨hg.os, hg.tape, hg.output, by rw [size_field]; exact hg.size, fun k hk ho => by
    refine ⟨(heap_field (fun e => ?_)).trans (hg.block k hk (by rw [ho]; exact fun e => hρ e.symm)), ?_⟩
    · rw [e, h.ob] at ho; cases ho
    · rw [setOwn_ne fun e => ?_]
      · exact ho
      · rcases hg.at_ with h1 | h1
        · rw [e, h1] at ho; exact hρ ho
        · omega⟩
theorem Grew.ownRow (hg : Grew V.own ρ w w1 row g) (h : GAtL B w b l G L V) (hρ : ρ ≠ .st) {e : TypeId} {n : Nat} {v : Value} {xs : List Value} (hv : ∀ k, v.ownBlock = some k → k = g) (ho : w1.ownsRow B e 1 v n xs) : (w1.setCell ⟨b, j, none⟩ u).ownsRow B e 1 v n xs ∧ ∀ k, v.ownBlock = some k → setOwn V.own g ρ k = ρ :=
  ⟨own_block ho (fun k hk => heap_field (by rw [hv k hk]; exact hg.nb h hρ)), fun k hk => by rw [hv k hk]; exact setOwn_self⟩
end
end Go.Proofs.Ytecedbjkebdeaaa
