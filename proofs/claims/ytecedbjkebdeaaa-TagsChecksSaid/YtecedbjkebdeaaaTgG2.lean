/-
  Tags: the graph's steps in memory; no walk here.
-/
import Derived.Test.YtecedbjkebdeaaaTgG
namespace Go.Proofs.Ytecedbjkebdeaaa
open Go.RowKit Go.Maps Go.WideElems Go.ChangeMaps Go.MapKept
set_option linter.unusedVariables false
set_option linter.unusedSimpArgs false
set_option maxRecDepth 100000

section
variable {B : Nat} {w w1 : World} {b : Nat} {l : EL} {G : GL} {L : Nat → Prop} {V : GV} {row : Option Nat} {g : Nat}
/-- a number more in the field 5 -/
theorem GAtL.pushQ (h : GAtL B w b l G L V) (hB : B ≤ w.heap.size) (hg : Grew V.own .qr w w1 row g) {v' : Value} {n : Nat} (hv : ∀ k, v'.ownBlock = some k → k = g) (ho : w1.ownsRow B 3 1 v' (G.Q.length + 1) (G.Q.map nv ++ [nv n])) :
    GAtL B (w1.setCell ⟨b, 5, none⟩ v') b l { G with Q := G.Q ++ [n] } L { V with qv := v', own := setOwn V.own g .qr } ∧ Mv V.own w (setOwn V.own g .qr) (w1.setCell ⟨b, 5, none⟩ v') := by
  have st := fun k hk hr hb => hg.stay (j := 5) (u := v') h k hk hr hb
  refine ⟨⟨show Bx _ b ((gcells l G V).setIfInBounds 5 v') _ from hg.bx h nofun, hg.ob h nofun, hg.lo h nofun hB, ?_, ?_, ?_, ?_, ?_, ?_, ?_, ?_, ?_, ?_, ?_⟩, hg.mv h nofun⟩
  · exact own_block h.r (fun k hk => (st k (by rw [h.ro k hk]; nofun) (by rw [h.ro k hk]; nofun) (by rw [h.ro k hk]; nofun)).1)
  · exact fun k hk => ((st k (by rw [h.ro k hk]; nofun) (by rw [h.ro k hk]; nofun) (by rw [h.ro k hk]; nofun)).2).trans (h.ro k hk)
  · exact own_block h.s (fun k hk => (st k (by rw [h.so k hk]; nofun) (by rw [h.so k hk]; nofun) (by rw [h.so k hk]; nofun)).1)
  · exact fun k hk => ((st k (by rw [h.so k hk]; nofun) (by rw [h.so k hk]; nofun) (by rw [h.so k hk]; nofun)).2).trans (h.so k hk)
  · exact own_block h.v (fun k hk => (st k (by rw [h.vo k hk]; nofun) (by rw [h.vo k hk]; nofun) (by rw [h.vo k hk]; nofun)).1)
  · exact fun k hk => ((st k (by rw [h.vo k hk]; nofun) (by rw [h.vo k hk]; nofun) (by rw [h.vo k hk]; nofun)).2).trans (h.vo k hk)
  · show World.ownsRow _ B _ 1 v' (G.Q ++ [n]).length ((G.Q ++ [n]).map nv)
    rw [List.length_append, List.map_append]
    exact (hg.ownRow h nofun hv ho).1
  · exact (hg.ownRow (j := 5) (u := v') (e := 3) h nofun hv ho).2
  · intro m hm
    refine ⟨fun hl => ?_, (h.sets m hm).2⟩
    obtain ⟨k, h1, h2, h3⟩ := (h.sets m hm).1 hl
    have h4 := st k (by rw [h2]; nofun) (by rw [h2]; nofun) (by rw [h2]; nofun)
    exact ⟨k, h1, h4.2.trans h2, h3.block h4.1⟩
  · intro m hm
    have h5 := (h.eds m hm).2
    exact ⟨own_block (h.eds m hm).1 (fun k hk => (st k (by rw [h5 k hk]; nofun) (by rw [h5 k hk]; nofun) (by rw [h5 k hk]; nofun)).1), fun k hk => ((st k (by rw [h5 k hk]; nofun) (by rw [h5 k hk]; nofun) (by rw [h5 k hk]; nofun)).2).trans (h5 k hk)⟩
  · intro k hk
    have h6 := (h.pl k hk).1
    have h4 := st k (by rw [h6]; nofun) (by rw [h6]; nofun) (by rw [h6]; nofun)
    exact ⟨h4.2.trans h6, (h.pl k hk).2.block h4.1⟩
/-- a number more in the field 2 -/
theorem GAtL.pushR (h : GAtL B w b l G L V) (hB : B ≤ w.heap.size) (hg : Grew V.own .rr w w1 row g) {v' : Value} {n : Nat} (hv : ∀ k, v'.ownBlock = some k → k = g) (ho : w1.ownsRow B 3 1 v' (G.R.length + 1) (G.R.map nv ++ [nv n])) :
    GAtL B (w1.setCell ⟨b, 2, none⟩ v') b l { G with R := G.R ++ [n] } L { V with rv := v', own := setOwn V.own g .rr } ∧ Mv V.own w (setOwn V.own g .rr) (w1.setCell ⟨b, 2, none⟩ v') := by
  have st := fun k hk hr hb => hg.stay (j := 2) (u := v') h k hk hr hb
  refine ⟨⟨show Bx _ b ((gcells l G V).setIfInBounds 2 v') _ from hg.bx h nofun, hg.ob h nofun, hg.lo h nofun hB, ?_, ?_, ?_, ?_, ?_, ?_, ?_, ?_, ?_, ?_, ?_⟩, hg.mv h nofun⟩
  · show World.ownsRow _ B _ 1 v' (G.R ++ [n]).length ((G.R ++ [n]).map nv)
    rw [List.length_append, List.map_append]
    exact (hg.ownRow h nofun hv ho).1
  · exact (hg.ownRow (j := 2) (u := v') (e := 3) h nofun hv ho).2
  · exact own_block h.s (fun k hk => (st k (by rw [h.so k hk]; nofun) (by rw [h.so k hk]; nofun) (by rw [h.so k hk]; nofun)).1)
  · exact fun k hk => ((st k (by rw [h.so k hk]; nofun) (by rw [h.so k hk]; nofun) (by rw [h.so k hk]; nofun)).2).trans (h.so k hk)
  · exact own_block h.v (fun k hk => (st k (by rw [h.vo k hk]; nofun) (by rw [h.vo k hk]; nofun) (by rw [h.vo k hk]; nofun)).1)
  · exact fun k hk => ((st k (by rw [h.vo k hk]; nofun) (by rw [h.vo k hk]; nofun) (by rw [h.vo k hk]; nofun)).2).trans (h.vo k hk)
  · exact own_block h.q (fun k hk => (st k (by rw [h.qo k hk]; nofun) (by rw [h.qo k hk]; nofun) (by rw [h.qo k hk]; nofun)).1)
  · exact fun k hk => ((st k (by rw [h.qo k hk]; nofun) (by rw [h.qo k hk]; nofun) (by rw [h.qo k hk]; nofun)).2).trans (h.qo k hk)
  · intro m hm
    refine ⟨fun hl => ?_, (h.sets m hm).2⟩
    obtain ⟨k, h1, h2, h3⟩ := (h.sets m hm).1 hl
    have h4 := st k (by rw [h2]; nofun) (by rw [h2]; nofun) (by rw [h2]; nofun)
    exact ⟨k, h1, h4.2.trans h2, h3.block h4.1⟩
  · intro m hm
    have h5 := (h.eds m hm).2
    exact ⟨own_block (h.eds m hm).1 (fun k hk => (st k (by rw [h5 k hk]; nofun) (by rw [h5 k hk]; nofun) (by rw [h5 k hk]; nofun)).1), fun k hk => ((st k (by rw [h5 k hk]; nofun) (by rw [h5 k hk]; nofun) (by rw [h5 k hk]; nofun)).2).trans (h5 k hk)⟩
  · intro k hk
    have h6 := (h.pl k hk).1
    have h4 := st k (by rw [h6]; nofun) (by rw [h6]; nofun) (by rw [h6]; nofun)
    exact ⟨h4.2.trans h6, (h.pl k hk).2.block h4.1⟩
/-- a set has grown -/
theorem GAtL.setS (h : GAtL B w b l G L V) {n k0 : Nat} {X : TS} (hn : n < G.m) (hk0 : V.sm n = some k0) (ho0 : V.own k0 = .s n) (hg : w.grownBy w1 (some k0)) (hs : SetAt w1 k0 X) :
    GAtL B w1 b l { G with S := fun j => if j = n then X else G.S j } L V ∧ Mv V.own w V.own w1 := by
  have st : ∀ k, V.own k ≠ .no → V.own k ≠ .s n → w1.heap[k]? = w.heap[k]? ∧ V.own k = V.own k := fun k hk hr => ⟨hg.block k (h.lo k hk).2 (fun e => hr (by rw [Option.some.inj e, ho0])), rfl⟩
  refine ⟨⟨(st b (by rw [h.ob]; nofun) (by rw [h.ob]; nofun)).1.trans h.bx, h.ob, fun k hk => ⟨(h.lo k hk).1, Nat.lt_of_lt_of_le (h.lo k hk).2 hg.size⟩, ?_, ?_, ?_, ?_, ?_, ?_, ?_, ?_, ?_, ?_, ?_⟩, ⟨hg.os, hg.tape, hg.output, hg.size, fun k hk ho => ⟨hg.block k hk (fun e => by rw [Option.some.inj e, ho0] at ho; cases ho), ho⟩⟩⟩
  · exact own_block h.r (fun k hk => (st k (by rw [h.ro k hk]; nofun) (by rw [h.ro k hk]; nofun)).1)
  · exact fun k hk => ((st k (by rw [h.ro k hk]; nofun) (by rw [h.ro k hk]; nofun)).2).trans (h.ro k hk)
  · exact own_block h.s (fun k hk => (st k (by rw [h.so k hk]; nofun) (by rw [h.so k hk]; nofun)).1)
  · exact fun k hk => ((st k (by rw [h.so k hk]; nofun) (by rw [h.so k hk]; nofun)).2).trans (h.so k hk)
  · exact own_block h.v (fun k hk => (st k (by rw [h.vo k hk]; nofun) (by rw [h.vo k hk]; nofun)).1)
  · exact fun k hk => ((st k (by rw [h.vo k hk]; nofun) (by rw [h.vo k hk]; nofun)).2).trans (h.vo k hk)
  · exact own_block h.q (fun k hk => (st k (by rw [h.qo k hk]; nofun) (by rw [h.qo k hk]; nofun)).1)
  · exact fun k hk => ((st k (by rw [h.qo k hk]; nofun) (by rw [h.qo k hk]; nofun)).2).trans (h.qo k hk)
  · intro m hm
    refine ⟨fun hl => ?_, (h.sets m hm).2⟩
    obtain ⟨k, h1, h2, h3⟩ := (h.sets m hm).1 hl
    by_cases e : m = n
    · subst e
      rw [hk0] at h1
      cases h1
      exact ⟨k0, hk0, ho0, by show SetAt w1 k0 (if m = m then X else G.S m); rw [if_pos rfl]; exact hs⟩
    · have h4 := st k (by rw [h2]; nofun) (by rw [h2]; exact fun e' => e (by injection e'))
      exact ⟨k, h1, h2, by show SetAt w1 k (if m = n then X else G.S m); rw [if_neg e]; exact h3.block h4.1⟩
  · intro m hm
    have h5 := (h.eds m hm).2
    exact ⟨own_block (h.eds m hm).1 (fun k hk => (st k (by rw [h5 k hk]; nofun) (by rw [h5 k hk]; nofun)).1), fun k hk => ((st k (by rw [h5 k hk]; nofun) (by rw [h5 k hk]; nofun)).2).trans (h5 k hk)⟩
  · intro k hk
    have h6 := (h.pl k hk).1
    have h4 := st k (by rw [h6]; nofun) (by rw [h6]; nofun)
    exact ⟨h4.2.trans h6, (h.pl k hk).2.block h4.1⟩
/-- the most automatic tags -/
theorem GAtL.setMost (h : GAtL B w b l G L V) (c : Nat) :
    GAtL B (w.setCell ⟨b, 6, none⟩ (.int .i64 (c : Nat))) b l { G with most := c } L V ∧ Mv V.own w V.own (w.setCell ⟨b, 6, none⟩ (.int .i64 (c : Nat))) := by
  have st : ∀ k, V.own k ≠ .no → V.own k ≠ .st → (w.setCell ⟨b, 6, none⟩ (.int .i64 (c : Nat))).heap[k]? = w.heap[k]? ∧ V.own k = V.own k := fun k hk hr => ⟨heap_field (fun e => hr (by rw [e, h.ob])), rfl⟩
  refine ⟨⟨show Bx _ b ((gcells l G V).setIfInBounds 6 (.int .i64 (c : Nat))) _ from bx_field h.bx _ _, h.ob, fun k hk => by rw [size_field]; exact h.lo k hk, ?_, ?_, ?_, ?_, ?_, ?_, ?_, ?_, ?_, ?_, ?_⟩, ⟨rfl, rfl, rfl, by rw [size_field]; exact Nat.le_refl _, fun k hk ho => ⟨heap_field (fun e => by rw [e, h.ob] at ho; cases ho), ho⟩⟩⟩
  · exact own_block h.r (fun k hk => (st k (by rw [h.ro k hk]; nofun) (by rw [h.ro k hk]; nofun)).1)
  · exact fun k hk => ((st k (by rw [h.ro k hk]; nofun) (by rw [h.ro k hk]; nofun)).2).trans (h.ro k hk)
  · exact own_block h.s (fun k hk => (st k (by rw [h.so k hk]; nofun) (by rw [h.so k hk]; nofun)).1)
  · exact fun k hk => ((st k (by rw [h.so k hk]; nofun) (by rw [h.so k hk]; nofun)).2).trans (h.so k hk)
  · exact own_block h.v (fun k hk => (st k (by rw [h.vo k hk]; nofun) (by rw [h.vo k hk]; nofun)).1)
  · exact fun k hk => ((st k (by rw [h.vo k hk]; nofun) (by rw [h.vo k hk]; nofun)).2).trans (h.vo k hk)
  · exact own_block h.q (fun k hk => (st k (by rw [h.qo k hk]; nofun) (by rw [h.qo k hk]; nofun)).1)
  · exact fun k hk => ((st k (by rw [h.qo k hk]; nofun) (by rw [h.qo k hk]; nofun)).2).trans (h.qo k hk)
  · intro m hm
    refine ⟨fun hl => ?_, (h.sets m hm).2⟩
    obtain ⟨k, h1, h2, h3⟩ := (h.sets m hm).1 hl
    have h4 := st k (by rw [h2]; nofun) (by rw [h2]; nofun)
    exact ⟨k, h1, h4.2.trans h2, h3.block h4.1⟩
  · intro m hm
    have h5 := (h.eds m hm).2
    exact ⟨own_block (h.eds m hm).1 (fun k hk => (st k (by rw [h5 k hk]; nofun) (by rw [h5 k hk]; nofun)).1), fun k hk => ((st k (by rw [h5 k hk]; nofun) (by rw [h5 k hk]; nofun)).2).trans (h5 k hk)⟩
  · intro k hk
    have h6 := (h.pl k hk).1
    have h4 := st k (by rw [h6]; nofun) (by rw [h6]; nofun)
    exact ⟨h4.2.trans h6, (h.pl k hk).2.block h4.1⟩
theorem own_set {w : World} {B g n cap i : Nat} {e : TypeId} {xs : List Value} (h : w.ownsRow B e 1 (.slice (some ⟨g, 0, none⟩) n cap) n xs) (hi : i < n) (u : Value) : (w.setCell ⟨g, i, none⟩ u).ownsRow B e 1 (.slice (some ⟨g, 0, none⟩) n cap) n (xs.set i u) := by
  obtain ⟨h1, h2 | ⟨g', cap', cur, hv, hb, hg, hnc, hcm, hcs, ht⟩⟩ := h
  · cases h2.1
  · cases hv
    refine ⟨by rw [List.length_set]; exact h1, .inr ⟨g, cap, cur.setIfInBounds i u, rfl, hb, ?_, hnc, hcm, by rw [Array.size_setIfInBounds]; exact hcs, ?_⟩⟩
    · rw [setCell_eq_setRow w g i cur e (0, 0) u hg]
      exact setRow_heap w g cur _ e _ hg
    · rw [Array.toList_setIfInBounds, List.take_set, ht]
theorem range_set (f : Nat → Value) (m i : Nat) (u : Value) : ((List.range m).map f).set i u = (List.range m).map (fun j => if j = i then u else f j) := by
  apply List.ext_getElem?
  intro j
  rw [List.getElem?_set]
  by_cases hj : j < m
  · by_cases e : i = j
    · subst e
      rw [if_pos rfl]
      simp [hj]
    · rw [if_neg e]
      simp [hj]
      intro h
      exact absurd h.symm e
  · by_cases e : i = j
    · subst e
      rw [if_pos rfl]
      simp [hj]
    · rw [if_neg e]
      simp [hj]
/-- a set is made for number p -/
theorem GAtL.newSet (h : GAtL B w b l G L V) (hB : B ≤ w.heap.size) {sg cap p : Nat} (hsv : V.sv = .slice (some ⟨sg, 0, none⟩) G.m cap) (hp : p < G.m) (hS : (G.S p).l = []) :
    GAtL B ((w.alloc (.map #[] 0)).setCell ⟨sg, p, none⟩ (.map (some w.heap.size))) b l G (fun n => L n ∨ n = p) { V with sm := fun n => if n = p then some w.heap.size else V.sm n, own := setOwn V.own w.heap.size (.s p) } ∧ Mv V.own w (setOwn V.own w.heap.size (.s p)) ((w.alloc (.map #[] 0)).setCell ⟨sg, p, none⟩ (.map (some w.heap.size))) := by
  have hso : V.own sg = .sr := h.so sg (by rw [hsv]; rfl)
  have hsg := (h.lo sg (by rw [hso]; nofun)).2
  have st : ∀ k, V.own k ≠ .no → V.own k ≠ .sr → ((w.alloc (.map #[] 0)).setCell ⟨sg, p, none⟩ (.map (some w.heap.size))).heap[k]? = w.heap[k]? ∧ setOwn V.own w.heap.size (.s p) k = V.own k := fun k hk hr =>
    have hlt := (h.lo k hk).2
    ⟨(heap_field (fun e => hr (by rw [e, hso]))).trans (Below.heap_alloc w _ k hlt), setOwn_ne (by omega)⟩
  refine ⟨⟨(st b (by rw [h.ob]; nofun) (by rw [h.ob]; nofun)).1.trans h.bx, (st b (by rw [h.ob]; nofun) (by rw [h.ob]; nofun)).2.trans h.ob, fun k hk => ?_, ?_, ?_, ?_, ?_, ?_, ?_, ?_, ?_, ?_, ?_, ?_⟩, ⟨rfl, rfl, rfl, by rw [size_field]; simp, fun k hk ho => ⟨(heap_field (fun e => by rw [e, hso] at ho; cases ho)).trans (Below.heap_alloc w _ k hk), (setOwn_ne (by omega)).trans ho⟩⟩⟩
  · rw [size_field]
    have e1 : (w.alloc (.map #[] 0)).heap.size = w.heap.size + 1 := by simp
    rw [e1]
    by_cases e : k = w.heap.size
    · omega
    · have hk2 := hk
      unfold setOwn at hk2
      simp only [if_neg e] at hk2
      have := h.lo k hk2
      omega
  · exact own_block h.r (fun k hk => (st k (by rw [h.ro k hk]; nofun) (by rw [h.ro k hk]; nofun)).1)
  · exact fun k hk => ((st k (by rw [h.ro k hk]; nofun) (by rw [h.ro k hk]; nofun)).2).trans (h.ro k hk)
  · have h1 := h.s
    rw [hsv] at h1
    have h2 := own_set (World.ownsRow.alloc h1 (.map #[] 0)) hp (.map (some w.heap.size))
    rw [range_set] at h2
    show World.ownsRow _ B _ 1 V.sv G.m ((List.range G.m).map fun n => .map (if n = p then some w.heap.size else V.sm n))
    rw [hsv]
    rw [show (fun n => Value.map (if n = p then some w.heap.size else V.sm n)) = (fun j => if j = p then Value.map (some w.heap.size) else Value.map (V.sm j)) from funext fun j => by split <;> rfl]
    exact h2
  · intro k hk
    have h1 := h.so k hk
    have hlt := (h.lo k (by rw [h1]; nofun)).2
    exact (setOwn_ne (by omega)).trans h1
  · exact own_block h.v (fun k hk => (st k (by rw [h.vo k hk]; nofun) (by rw [h.vo k hk]; nofun)).1)
  · exact fun k hk => ((st k (by rw [h.vo k hk]; nofun) (by rw [h.vo k hk]; nofun)).2).trans (h.vo k hk)
  · exact own_block h.q (fun k hk => (st k (by rw [h.qo k hk]; nofun) (by rw [h.qo k hk]; nofun)).1)
  · exact fun k hk => ((st k (by rw [h.qo k hk]; nofun) (by rw [h.qo k hk]; nofun)).2).trans (h.qo k hk)
  · intro m hm
    by_cases e : m = p
    · subst e
      refine ⟨fun _ => ⟨w.heap.size, if_pos rfl, setOwn_self, ?_⟩, fun hn => absurd (.inr rfl) hn⟩
      exact (SetAt.made w (G.S m) hS).block (heap_field (by omega))
    · refine ⟨fun hl => ?_, fun hn => ?_⟩
      · obtain ⟨k, h1, h2, h3⟩ := (h.sets m hm).1 (hl.resolve_right e)
        have h4 := st k (by rw [h2]; nofun) (by rw [h2]; nofun)
        exact ⟨k, (if_neg e).trans h1, h4.2.trans h2, h3.block h4.1⟩
      · exact (if_neg e).trans ((h.sets m hm).2 (fun hl => hn (.inl hl)))
  · intro m hm
    have h5 := (h.eds m hm).2
    exact ⟨own_block (h.eds m hm).1 (fun k hk => (st k (by rw [h5 k hk]; nofun) (by rw [h5 k hk]; nofun)).1), fun k hk => ((st k (by rw [h5 k hk]; nofun) (by rw [h5 k hk]; nofun)).2).trans (h5 k hk)⟩
  · intro k hk
    have h6 := (h.pl k hk).1
    have h4 := st k (by rw [h6]; nofun) (by rw [h6]; nofun)
    exact ⟨h4.2.trans h6, (h.pl k hk).2.block h4.1⟩
theorem frozen_gx {W : World} {g : Nat} {cs : Array Value} {t : TypeId} (h : Bx W g cs t) (j : Nat) : W.frozen? ⟨g, j, none⟩ = false := by
  unfold Bx at h
  simp [World.frozen?, h]
/-- the struct stands where a row of it has grown -/
theorem GAtL.grown (h : GAtL B w b l G L V) (hg : w.grownBy w1 row) (ho : ∀ k, row = some k → V.own k ≠ .st) : Bx w1 b (gcells l G V) 60 := (hg.block b h.bx.lt (fun e => ho b e.symm h.ob)).trans h.bx
theorem GAtL.live_eq (h : GAtL B w b l G L V) {L' : Nat → Prop} (he : ∀ n, n < G.m → (L n ↔ L' n)) : GAtL B w b l G L' V :=
  ⟨h.bx, h.ob, h.lo, h.r, h.ro, h.s, h.so, h.v, h.vo, h.q, h.qo, fun n hn => ⟨fun hl => (h.sets n hn).1 ((he n hn).2 hl), fun hl => (h.sets n hn).2 (fun h' => hl ((he n hn).1 h'))⟩, h.eds, h.pl⟩
end
end Go.Proofs.Ytecedbjkebdeaaa
