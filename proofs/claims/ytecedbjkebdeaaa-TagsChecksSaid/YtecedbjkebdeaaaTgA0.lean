/-
  Tags: a graph in memory with one type more; no walk here.
-/
import Derived.Test.YtecedbjkebdeaaaTgO
namespace Go.Proofs.Ytecedbjkebdeaaa
open Go.RowKit Go.Maps Go.WideElems Go.ChangeMaps Go.MapKept Go.Shelf
set_option linter.unusedVariables false
set_option linter.unusedSimpArgs false
set_option maxRecDepth 100000

def xsA (G : GL) (V : GV) : List Value := (List.range G.m).map fun n => .map (V.sm n)
def xsB (G : GL) (V : GV) : List Value := (List.range G.m).map V.ev
/-- both rows have grown -/
structure AddX (B : Nat) (X0 : World) (G : GL) (V : GV) (k gA capA gB capB : Nat) (X : World) : Prop where
  os : X.os = X0.os
  tape : X.tape = X0.tape
  output : X.output = X0.output
  size : X0.heap.size ≤ X.heap.size
  keep : ∀ j, j < X0.heap.size → V.own j ≠ .sr → V.own j ≠ .vr → X.heap[j]? = X0.heap[j]?
  map : X.heap[k]? = some (.map #[] 0)
  k0 : X0.heap.size ≤ k
  rA : X.ownsRow B 52 1 (.slice (some ⟨gA, 0, none⟩) (G.m + 1) capA) (G.m + 1) (xsA G V ++ [.map (some k)])
  rB : X.ownsRow B 37 1 (.slice (some ⟨gB, 0, none⟩) (G.m + 1) capB) (G.m + 1) (xsB G V ++ [.slice none 0 0])
  aA : V.own gA = .sr ∨ X0.heap.size ≤ gA
  aB : V.own gB = .vr ∨ X0.heap.size ≤ gB
theorem rowA {B : Nat} {X0 X : World} {b : Nat} {l : EL} {G : GL} {V : GV} (hG : GAt B X0 b l G V) (h : Below X0.heap.size X0 X) : X.ownsRow B 52 1 V.sv G.m (xsA G V) :=
  own_block hG.s fun k hk => h.block k (hG.lo k (by rw [hG.so k hk]; nofun)).2
theorem rowB {B : Nat} {X0 Xa wA X : World} {b : Nat} {l : EL} {G : GL} {V : GV} (hG : GAt B X0 b l G V) (h : Below X0.heap.size X0 Xa) (hg : Xa.grownBy wA V.sv.ownBlock) (h2 : Below wA.heap.size wA X) : X.ownsRow B 37 1 V.vv G.m (xsB G V) :=
  own_block hG.v fun k hk => by
    have hv := hG.vo k hk
    have hlt := (hG.lo k (by rw [hv]; nofun)).2
    have h1 := h.size
    have h3 := hg.size
    refine (h2.block k (by omega)).trans ((hg.block k (by omega) (fun e => ?_)).trans (h.block k hlt))
    rw [hG.so k e.symm] at hv
    cases hv
theorem AddX.of {B : Nat} {X0 Xa wA Xb wB : World} {b : Nat} {l : EL} {G : GL} {V : GV} {k gA capA gB capB : Nat} (hG : GAt B X0 b l G V) (h1 : Below X0.heap.size X0 Xa) (hm : Xa.heap[k]? = some (.map #[] 0)) (hk : X0.heap.size ≤ k)
    (oA : wA.ownsRow B 52 1 (.slice (some ⟨gA, 0, none⟩) (G.m + 1) capA) (G.m + 1) (xsA G V ++ [.map (some k)])) (hA : Xa.grownBy wA V.sv.ownBlock) (tA : V.sv.ownBlock = some gA ∨ gA = Xa.heap.size) (lA : gA < wA.heap.size) (h2 : Below wA.heap.size wA Xb)
    (oB : wB.ownsRow B 37 1 (.slice (some ⟨gB, 0, none⟩) (G.m + 1) capB) (G.m + 1) (xsB G V ++ [.slice none 0 0])) (hB : Xb.grownBy wB V.vv.ownBlock) (tB : V.vv.ownBlock = some gB ∨ gB = Xb.heap.size) : AddX B X0 G V k gA capA gB capB wB := by
  have s1 := h1.size
  have s2 := hA.size
  have s3 := h2.size
  have s4 := hB.size
  have hka : k < Xa.heap.size := (Array.getElem?_eq_some_iff.1 hm).1
  have nsv : ∀ j, V.sv.ownBlock = some j → j < X0.heap.size := fun j hj => (hG.lo j (by rw [hG.so j hj]; nofun)).2
  have nvv : ∀ j, V.vv.ownBlock = some j → j < X0.heap.size := fun j hj => (hG.lo j (by rw [hG.vo j hj]; nofun)).2
  refine ⟨hB.os.trans (h2.os.trans (hA.os.trans h1.os)), hB.tape.trans (h2.tape.trans (hA.tape.trans h1.tape)), hB.output.trans (h2.output.trans (hA.output.trans h1.output)), by omega, fun j hj h3 h4 => ?_, ?_, hk, ?_, oB, ?_, ?_⟩
  · exact (hB.block j (by omega) (fun e => h4 (hG.vo j e.symm))).trans ((h2.block j (by omega)).trans ((hA.block j (by omega) (fun e => h3 (hG.so j e.symm))).trans (h1.block j hj)))
  · exact (hB.block k (by omega) (fun e => by have := nvv k e.symm; omega)).trans ((h2.block k (by omega)).trans ((hA.block k hka (fun e => by have := nsv k e.symm; omega)).trans hm))
  · exact own_block oA fun j hj => by
      cases hj
      refine (hB.block gA (by omega) (fun e => ?_)).trans (h2.block gA lA)
      rcases tA with h | h
      · have h5 := hG.so gA h
        rw [hG.vo gA e.symm] at h5
        cases h5
      · have := nvv gA e.symm
        omega
  · rcases tA with h | h
    · exact .inl (hG.so gA h)
    · exact .inr (by omega)
  · rcases tB with h | h
    · exact .inl (hG.vo gB h)
    · exact .inr (by omega)
theorem range_snoc (f : Nat → Value) (m : Nat) (v : Value) : ((List.range m).map f) ++ [v] = (List.range (m + 1)).map fun n => if n = m then v else f n := by
  rw [List.range_succ, List.map_append]
  congr 1
  · apply List.map_congr_left
    intro n hn
    have := List.mem_range.1 hn
    rw [if_neg (by omega)]
  · simp
theorem own_type {X : World} {B n n' g c c' : Nat} {e e' : TypeId} {xs xs' : List Value} (h : X.ownsRow B e 1 (.slice (some ⟨g, 0, none⟩) n c) n xs) (h' : X.ownsRow B e' 1 (.slice (some ⟨g, 0, none⟩) n' c') n' xs') : e = e' := by
  rcases h.2 with ⟨h1, _⟩ | ⟨g1, cap1, cur1, hv1, _, hg1, _⟩
  · cases h1
  rcases h'.2 with ⟨h2, _⟩ | ⟨g2, cap2, cur2, hv2, _, hg2, _⟩
  · cases h2
  cases hv1
  cases hv2
  rw [hg1] at hg2
  cases hg2
  rfl
theorem own_map {X : World} {B n g c k : Nat} {e : TypeId} {xs : List Value} (h : X.ownsRow B e 1 (.slice (some ⟨g, 0, none⟩) n c) n xs) (hm : X.heap[k]? = some (.map #[] 0)) : k ≠ g := by
  rintro rfl
  rcases h.2 with ⟨h1, _⟩ | ⟨g1, cap1, cur1, hv1, _, hg1, _⟩
  · cases h1
  cases hv1
  rw [hg1] at hm
  cases hm
theorem AddX.done {B : Nat} {X0 X : World} {b : Nat} {l : EL} {G : GL} {V : GV} {k gA capA gB capB : Nat} (h : AddX B X0 G V k gA capA gB capB X) (hG : GAt B X0 b l G V) (hB : B ≤ X0.heap.size) (hln : l.n ≤ G.m) :
    ∃ V', GAt B ((X.setCell ⟨b, 3, none⟩ (.slice (some ⟨gA, 0, none⟩) (G.m + 1) capA)).setCell ⟨b, 4, none⟩ (.slice (some ⟨gB, 0, none⟩) (G.m + 1) capB)) b l G.add V' ∧ Mv V.own X0 V'.own ((X.setCell ⟨b, 3, none⟩ (.slice (some ⟨gA, 0, none⟩) (G.m + 1) capA)).setCell ⟨b, 4, none⟩ (.slice (some ⟨gB, 0, none⟩) (G.m + 1) capB)) := by
  have hAB : gA ≠ gB := fun e => by
    have h1 := h.rA
    rw [e] at h1
    have := own_type h1 h.rB
    exact absurd this (by decide)
  have hkA : k ≠ gA := own_map h.rA h.map
  have hkB : k ≠ gB := own_map h.rB h.map
  have hblt := hG.bx.lt
  have hkX : k < X.heap.size := (Array.getElem?_eq_some_iff.1 h.map).1
  have hgA : gA < X.heap.size := (h.rA.lt gA rfl).2
  have hgB : gB < X.heap.size := (h.rB.lt gB rfl).2
  have hbA : gA ≠ b := fun e => by
    rcases h.aA with h1 | h1
    · rw [e, hG.ob] at h1; cases h1
    · omega
  have hbB : gB ≠ b := fun e => by
    rcases h.aB with h1 | h1
    · rw [e, hG.ob] at h1; cases h1
    · omega
  have hk0 := h.k0
  obtain ⟨own', hown⟩ : ∃ own', own' = setOwn (setOwn (setOwn V.own gA .sr) gB .vr) k (.s G.m) := ⟨_, rfl⟩
  have oA : own' gA = .sr := by rw [hown, setOwn_ne (Ne.symm hkA), setOwn_ne hAB, setOwn_self]
  have oB : own' gB = .vr := by rw [hown, setOwn_ne (Ne.symm hkB), setOwn_self]
  have oK : own' k = .s G.m := by rw [hown, setOwn_self]
  have oX : ∀ j, j ≠ k → j ≠ gA → j ≠ gB → own' j = V.own j := fun j h1 h2 h3 => by rw [hown, setOwn_ne h1, setOwn_ne h3, setOwn_ne h2]
  have ne : ∀ j, V.own j ≠ .no → V.own j ≠ .sr → V.own j ≠ .vr → own' j = V.own j := fun j h1 h2 h3 => by
    have hlt := (hG.lo j h1).2
    refine oX j (by omega) (fun e => ?_) (fun e => ?_)
    · rcases h.aA with h4 | h4
      · exact h2 (by rw [e]; exact h4)
      · omega
    · rcases h.aB with h4 | h4
      · exact h3 (by rw [e]; exact h4)
      · omega
  have st : ∀ j, V.own j ≠ .no → V.own j ≠ .sr → V.own j ≠ .vr → V.own j ≠ .st → ((X.setCell ⟨b, 3, none⟩ (.slice (some ⟨gA, 0, none⟩) (G.m + 1) capA)).setCell ⟨b, 4, none⟩ (.slice (some ⟨gB, 0, none⟩) (G.m + 1) capB)).heap[j]? = X0.heap[j]? ∧ own' j = V.own j := fun j h1 h2 h3 h4 =>
    have hjb : j ≠ b := fun e => h4 (by rw [e, hG.ob])
    ⟨(heap_field hjb).trans ((heap_field hjb).trans (h.keep j (hG.lo j h1).2 h2 h3)), ne j h1 h2 h3⟩
  have hbx : Bx X b (gcells l G V) 60 := (h.keep b hblt (by rw [hG.ob]; nofun) (by rw [hG.ob]; nofun)).trans hG.bx
  refine ⟨{ V with sv := .slice (some ⟨gA, 0, none⟩) (G.m + 1) capA, vv := .slice (some ⟨gB, 0, none⟩) (G.m + 1) capB, sm := fun n => if n = G.m then some k else V.sm n, ev := fun n => if n = G.m then .slice none 0 0 else V.ev n, own := own' }, ⟨?_, ?_, ?_, ?_, ?_, ?_, ?_, ?_, ?_, ?_, ?_, ?_, ?_, ?_⟩, ⟨h.os, h.tape, h.output, by rw [size_field, size_field]; exact h.size, fun j hj ho => ?_⟩⟩
  · exact bx_field (bx_field hbx 3 _) 4 _
  · exact (ne b (by rw [hG.ob]; nofun) (by rw [hG.ob]; nofun) (by rw [hG.ob]; nofun)).trans hG.ob
  · intro j hj
    rw [size_field, size_field]
    have hj2 : own' j ≠ .no := hj
    by_cases e1 : j = k
    · subst e1; exact ⟨by omega, hkX⟩
    · by_cases e2 : j = gA
      · subst e2; exact ⟨(h.rA.lt _ rfl).1, hgA⟩
      · by_cases e3 : j = gB
        · subst e3; exact ⟨(h.rB.lt _ rfl).1, hgB⟩
        · rw [oX j e1 e2 e3] at hj2
          have := hG.lo j hj2
          exact ⟨this.1, by have := h.size; omega⟩
  · exact own_block hG.r (fun j hj => (st j (by rw [hG.ro j hj]; nofun) (by rw [hG.ro j hj]; nofun) (by rw [hG.ro j hj]; nofun) (by rw [hG.ro j hj]; nofun)).1)
  · exact fun j hj => ((st j (by rw [hG.ro j hj]; nofun) (by rw [hG.ro j hj]; nofun) (by rw [hG.ro j hj]; nofun) (by rw [hG.ro j hj]; nofun)).2).trans (hG.ro j hj)
  · have h1 := h.rA
    unfold xsA at h1
    rw [range_snoc] at h1
    show World.ownsRow _ B _ 1 _ (G.m + 1) ((List.range (G.m + 1)).map fun n => .map (if n = G.m then some k else V.sm n))
    rw [show (fun n => Value.map (if n = G.m then some k else V.sm n)) = (fun n => if n = G.m then Value.map (some k) else Value.map (V.sm n)) from funext fun j => by split <;> rfl]
    exact own_block h1 fun j hj => by
      cases hj
      exact (heap_field hbA).trans (heap_field hbA)
  · intro j hj
    cases hj
    exact oA
  · have h1 := h.rB
    unfold xsB at h1
    rw [range_snoc] at h1
    exact own_block h1 fun j hj => by
      cases hj
      exact (heap_field hbB).trans (heap_field hbB)
  · intro j hj
    cases hj
    exact oB
  · exact own_block hG.q (fun j hj => (st j (by rw [hG.qo j hj]; nofun) (by rw [hG.qo j hj]; nofun) (by rw [hG.qo j hj]; nofun) (by rw [hG.qo j hj]; nofun)).1)
  · exact fun j hj => ((st j (by rw [hG.qo j hj]; nofun) (by rw [hG.qo j hj]; nofun) (by rw [hG.qo j hj]; nofun) (by rw [hG.qo j hj]; nofun)).2).trans (hG.qo j hj)
  · intro n hn
    have hn' : n < G.m + 1 := hn
    by_cases e : n = G.m
    · subst e
      refine ⟨fun _ => ⟨k, if_pos rfl, oK, ?_⟩, fun hl => absurd (.inr hln) hl⟩
      have hm : ((X.setCell ⟨b, 3, none⟩ (.slice (some ⟨gA, 0, none⟩) (G.m + 1) capA)).setCell ⟨b, 4, none⟩ (.slice (some ⟨gB, 0, none⟩) (G.m + 1) capB)).heap[k]? = some (.map #[] 0) := (heap_field (by omega)).trans ((heap_field (by omega)).trans h.map)
      show SetAt _ k (if G.m = G.m then TS.no else G.S G.m)
      rw [if_pos rfl]
      exact SetAt.empty hm
    · refine ⟨fun hl => ?_, fun hl => (if_neg e).trans ((hG.sets n (by omega)).2 hl)⟩
      obtain ⟨k2, h1, h2, h3⟩ := (hG.sets n (by omega)).1 hl
      have h4 := st k2 (by rw [h2]; nofun) (by rw [h2]; nofun) (by rw [h2]; nofun) (by rw [h2]; nofun)
      refine ⟨k2, (if_neg e).trans h1, h4.2.trans h2, ?_⟩
      show SetAt _ k2 (if n = G.m then TS.no else G.S n)
      rw [if_neg e]
      exact h3.block h4.1
  · intro n hn
    have hn' : n < G.m + 1 := hn
    by_cases e : n = G.m
    · subst e
      show World.ownsRow _ B _ 1 (if G.m = G.m then Value.slice none 0 0 else V.ev G.m) (if G.m = G.m then [] else G.E G.m).length ((if G.m = G.m then [] else G.E G.m).map nv) ∧ ∀ j, (if G.m = G.m then Value.slice none 0 0 else V.ev G.m).ownBlock = some j → _
      rw [if_pos rfl, if_pos rfl]
      exact ⟨World.ownsRow_nil _ _ _ _, fun j hj => by cases hj⟩
    · have h5 := hG.eds n (by omega)
      show World.ownsRow _ B _ 1 (if n = G.m then Value.slice none 0 0 else V.ev n) (if n = G.m then [] else G.E n).length ((if n = G.m then [] else G.E n).map nv) ∧ ∀ j, (if n = G.m then Value.slice none 0 0 else V.ev n).ownBlock = some j → _
      rw [if_neg e, if_neg e]
      exact ⟨own_block h5.1 (fun j hj => (st j (by rw [h5.2 j hj]; nofun) (by rw [h5.2 j hj]; nofun) (by rw [h5.2 j hj]; nofun) (by rw [h5.2 j hj]; nofun)).1), fun j hj => ((st j (by rw [h5.2 j hj]; nofun) (by rw [h5.2 j hj]; nofun) (by rw [h5.2 j hj]; nofun) (by rw [h5.2 j hj]; nofun)).2).trans (h5.2 j hj)⟩
  · intro j hj
    have h6 := (hG.pl j hj).1
    have h4 := st j (by rw [h6]; nofun) (by rw [h6]; nofun) (by rw [h6]; nofun) (by rw [h6]; nofun)
    exact ⟨h4.2.trans h6, (hG.pl j hj).2.block h4.1⟩
  · have hjb : j ≠ b := fun e => by rw [e, hG.ob] at ho; cases ho
    refine ⟨(heap_field hjb).trans ((heap_field hjb).trans (h.keep j hj (by rw [ho]; nofun) (by rw [ho]; nofun))), ?_⟩
    show own' j = .no
    rw [oX j (by omega) (fun e => ?_) (fun e => ?_)]
    · exact ho
    · rcases h.aA with h4 | h4
      · rw [← e, ho] at h4; cases h4
      · omega
    · rcases h.aB with h4 | h4
      · rw [← e, ho] at h4; cases h4
      · omega
end Go.Proofs.Ytecedbjkebdeaaa
