/-
  Tags: the graph's steps in memory; no walk here.
-/
import Derived.Test.YtecedbjkebdeaaaTgG2
namespace Go.Proofs.Ytecedbjkebdeaaa
open Go.RowKit Go.Maps Go.WideElems Go.ChangeMaps Go.MapKept
set_option linter.unusedVariables false
set_option linter.unusedSimpArgs false
set_option maxRecDepth 100000

section
variable {B : Nat} {w w1 : World} {b : Nat} {l : EL} {G : GL} {L : Nat → Prop} {V : GV} {row : Option Nat} {g : Nat}
/-- number p gives to n, too -/
theorem GAtL.pushE (h : GAtL B w b l G L V) (hB : B ≤ w.heap.size) {p n gv cap : Nat} (hp : p < G.m) (hg : Grew V.own (.v p) w w1 row g) (hvv : V.vv = .slice (some ⟨gv, 0, none⟩) G.m cap) {v' : Value} (hv : ∀ k, v'.ownBlock = some k → k = g) (ho : w1.ownsRow B 3 1 v' ((G.E p).length + 1) ((G.E p).map nv ++ [nv n])) :
    GAtL B (w1.setCell ⟨gv, p, none⟩ v') b l (G.edge p n) L { V with ev := (fun k => if k = p then v' else V.ev k), own := setOwn V.own g (.v p) } ∧ Mv V.own w (setOwn V.own g (.v p)) (w1.setCell ⟨gv, p, none⟩ v') := by
  have hvo : V.own gv = .vr := h.vo gv (by rw [hvv]; rfl)
  have hgv := (h.lo gv (by rw [hvo]; nofun)).2
  have hgn : g ≠ gv := fun e => by
    rcases hg.at_ with h1 | h1
    · rw [e, hvo] at h1; cases h1
    · omega
  have ne : ∀ k, V.own k ≠ .no → V.own k ≠ .v p → k ≠ g := fun k hk hr e => by
    rcases hg.at_ with h1 | h1
    · exact hr (by rw [e, h1])
    · have := (h.lo k hk).2; omega
  have st : ∀ k, V.own k ≠ .no → V.own k ≠ .v p → V.own k ≠ .vr → (w1.setCell ⟨gv, p, none⟩ v').heap[k]? = w.heap[k]? ∧ setOwn V.own g (.v p) k = V.own k := fun k hk hr hb =>
    ⟨(heap_field (fun e => hb (by rw [e, hvo]))).trans (hg.block k (h.lo k hk).2 hr), setOwn_ne (ne k hk hr)⟩
  refine ⟨⟨(st b (by rw [h.ob]; nofun) (by rw [h.ob]; nofun) (by rw [h.ob]; nofun)).1.trans h.bx, (st b (by rw [h.ob]; nofun) (by rw [h.ob]; nofun) (by rw [h.ob]; nofun)).2.trans h.ob, fun k hk => ?_, ?_, ?_, ?_, ?_, ?_, ?_, ?_, ?_, ?_, ?_, ?_⟩, ⟨hg.os, hg.tape, hg.output, by rw [size_field]; exact hg.size, fun k hk ho => ⟨(heap_field (fun e => by rw [e, hvo] at ho; cases ho)).trans (hg.block k hk (by rw [ho]; nofun)), (setOwn_ne (fun e => by
    rcases hg.at_ with h1 | h1
    · rw [e, h1] at ho; cases ho
    · omega)).trans ho⟩⟩⟩
  · rw [size_field]
    by_cases e : k = g
    · subst e
      refine ⟨?_, hg.lt⟩
      rcases hg.at_ with h1 | h1
      · exact (h.lo k (by rw [h1]; nofun)).1
      · omega
    · have hk2 : setOwn V.own g (.v p) k ≠ .no := hk
      rw [setOwn_ne e] at hk2
      exact ⟨(h.lo k hk2).1, Nat.lt_of_lt_of_le (h.lo k hk2).2 hg.size⟩
  · exact own_block h.r (fun k hk => (st k (by rw [h.ro k hk]; nofun) (by rw [h.ro k hk]; nofun) (by rw [h.ro k hk]; nofun)).1)
  · exact fun k hk => ((st k (by rw [h.ro k hk]; nofun) (by rw [h.ro k hk]; nofun) (by rw [h.ro k hk]; nofun)).2).trans (h.ro k hk)
  · exact own_block h.s (fun k hk => (st k (by rw [h.so k hk]; nofun) (by rw [h.so k hk]; nofun) (by rw [h.so k hk]; nofun)).1)
  · exact fun k hk => ((st k (by rw [h.so k hk]; nofun) (by rw [h.so k hk]; nofun) (by rw [h.so k hk]; nofun)).2).trans (h.so k hk)
  · have h1 : w1.ownsRow B 37 1 V.vv G.m ((List.range G.m).map V.ev) := own_block h.v (fun k hk => hg.block k (h.lo k (by rw [h.vo k hk]; nofun)).2 (by rw [h.vo k hk]; nofun))
    rw [hvv] at h1
    have h2 := own_set h1 hp v'
    rw [range_set] at h2
    show World.ownsRow _ B _ 1 V.vv G.m ((List.range G.m).map fun k => if k = p then v' else V.ev k)
    rw [hvv]
    exact h2
  · exact fun k hk => (setOwn_ne (ne k (by rw [h.vo k hk]; nofun) (by rw [h.vo k hk]; nofun))).trans (h.vo k hk)
  · exact own_block h.q (fun k hk => (st k (by rw [h.qo k hk]; nofun) (by rw [h.qo k hk]; nofun) (by rw [h.qo k hk]; nofun)).1)
  · exact fun k hk => ((st k (by rw [h.qo k hk]; nofun) (by rw [h.qo k hk]; nofun) (by rw [h.qo k hk]; nofun)).2).trans (h.qo k hk)
  · intro m hm
    refine ⟨fun hl => ?_, (h.sets m hm).2⟩
    obtain ⟨k, h1, h2, h3⟩ := (h.sets m hm).1 hl
    have h4 := st k (by rw [h2]; nofun) (by rw [h2]; nofun) (by rw [h2]; nofun)
    exact ⟨k, h1, h4.2.trans h2, h3.block h4.1⟩
  · intro m hm
    by_cases e : m = p
    · subst e
      show World.ownsRow _ B _ 1 (if m = m then v' else V.ev m) (if m = m then G.E m ++ [n] else G.E m).length ((if m = m then G.E m ++ [n] else G.E m).map nv) ∧ ∀ k, (if m = m then v' else V.ev m).ownBlock = some k → _
      rw [if_pos rfl, if_pos rfl, List.length_append, List.map_append]
      exact ⟨own_block ho (fun k hk => heap_field (by rw [hv k hk]; exact hgn)), fun k hk => by rw [hv k hk]; exact setOwn_self⟩
    · have h5 := (h.eds m hm).2
      show World.ownsRow _ B _ 1 (if m = p then v' else V.ev m) (if m = p then G.E p ++ [n] else G.E m).length ((if m = p then G.E p ++ [n] else G.E m).map nv) ∧ ∀ k, (if m = p then v' else V.ev m).ownBlock = some k → _
      rw [if_neg e, if_neg e]
      have hne : ∀ k, (V.ev m).ownBlock = some k → V.own k ≠ .v p := fun k hk h6 => by rw [h5 k hk] at h6; injection h6 with h6; exact e h6
      exact ⟨own_block (h.eds m hm).1 (fun k hk => (st k (by rw [h5 k hk]; nofun) (hne k hk) (by rw [h5 k hk]; nofun)).1), fun k hk => ((st k (by rw [h5 k hk]; nofun) (hne k hk) (by rw [h5 k hk]; nofun)).2).trans (h5 k hk)⟩
  · intro k hk
    have h6 := (h.pl k hk).1
    have h4 := st k (by rw [h6]; nofun) (by rw [h6]; nofun) (by rw [h6]; nofun)
    exact ⟨h4.2.trans h6, (h.pl k hk).2.block h4.1⟩
end
end Go.Proofs.Ytecedbjkebdeaaa
