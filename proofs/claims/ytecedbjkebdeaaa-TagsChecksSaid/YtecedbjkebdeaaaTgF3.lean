/-
  Package tags: 'find', joined; 'refer'.
-/
import Derived.Test.YtecedbjkebdeaaaTgF2
namespace Go.Proofs.Ytecedbjkebdeaaa
open Go.RowKit Go.Maps Go.WideElems Go.ChangeMaps Go.MapKept Go.Shelf
set_option linter.unusedVariables false
set_option linter.unusedSimpArgs false
set_option maxRecDepth 100000

/-- the entries that a graph stands over, and their bounds -/
structure EOk (B : Nat) (w : World) (l : EL) : Prop where
  el : ELIn B w l
  n : l.n ≤ 1000000
  sz : ∀ i, i < l.n → (l.f i).mod.size + (l.f i).name.size + 1 ≤ 9223372036854775807
theorem EOk.below {B B' : Nat} {w w' : World} {l : EL} (h : EOk B w l) (hb : Below B' w w') (hB : B ≤ B') : EOk B' w' l := ⟨h.el.below hb hB, h.n, h.sz⟩
theorem GAtL.ofJF {B : Nat} {w w' : World} {b : Nat} {l : EL} {G : GL} {L : Nat → Prop} {V : GV} {cs : Array Value} (h : GAtL B w b l G L V) (hB : B ≤ w.heap.size) (hp : V.pm = none) (hcs : cs = #[l.v, .map (some (w.heap.size + 1)), V.rv, V.sv, V.vv, V.qv, .int .i64 (G.most : Nat)]) (k : JF w b cs l 0 w') :
    GAtL B w' b l G L { V with pm := some (w.heap.size + 1), own := setOwn V.own (w.heap.size + 1) .pm } ∧ Mv V.own w (setOwn V.own (w.heap.size + 1) .pm) w' := by
  have hs := k.size
  have st : ∀ j, V.own j ≠ .no → V.own j ≠ .st → w'.heap[j]? = w.heap[j]? ∧ setOwn V.own (w.heap.size + 1) .pm j = V.own j := fun j hj hr =>
    have hlt := (h.lo j hj).2
    ⟨k.blk j hlt (fun e => hr (by rw [e, h.ob])), setOwn_ne (by omega)⟩
  have hblt := h.bx.lt
  subst hcs
  refine ⟨⟨k.bx, (setOwn_ne (by omega)).trans h.ob, fun j hj => ?_, ?_, ?_, ?_, ?_, ?_, ?_, ?_, ?_, ?_, ?_, ?_⟩, ⟨k.os, k.tape, k.output, by omega, fun j hj ho => ⟨k.blk j hj (fun e => by rw [e, h.ob] at ho; cases ho), (setOwn_ne (by omega)).trans ho⟩⟩⟩
  · by_cases e : j = w.heap.size + 1
    · omega
    · have hj2 := hj
      unfold setOwn at hj2
      simp only [if_neg e] at hj2
      have := h.lo j hj2
      omega
  · exact own_block h.r (fun k hk => (st k (by rw [h.ro k hk]; nofun) (by rw [h.ro k hk]; nofun)).1)
  · exact fun k hk => ((st k (by rw [h.ro k hk]; nofun) (by rw [h.ro k hk]; nofun)).2).trans (h.ro k hk)
  · exact own_block h.s (fun k hk => (st k (by rw [h.so k hk]; nofun) (by rw [h.so k hk]; nofun)).1)
  · exact fun k hk => ((st k (by rw [h.so k hk]; nofun) (by rw [h.so k hk]; nofun)).2).trans (h.so k hk)
  · exact own_block h.v (fun k hk => (st k (by rw [h.vo k hk]; nofun) (by rw [h.vo k hk]; nofun)).1)
  · exact fun k hk => ((st k (by rw [h.vo k hk]; nofun) (by rw [h.vo k hk]; nofun)).2).trans (h.vo k hk)
  · exact own_block h.q (fun k hk => (st k (by rw [h.qo k hk]; nofun) (by rw [h.qo k hk]; nofun)).1)
  · exact fun k hk => ((st k (by rw [h.qo k hk]; nofun) (by rw [h.qo k hk]; nofun)).2).trans (h.qo k hk)
  · intro m hm
    refine ⟨fun hl => ?_, (h.sets m hm).2⟩
    obtain ⟨k, h1, h2, h3⟩ := (h.sets m hm).1 hl
    have h4 := st k (by rw [h2]; nofun) (by rw [h2]; nofun)
    exact ⟨k, h1, h4.2.trans h2, h3.block h4.1⟩
  · intro m hm
    have h5 := (h.eds m hm).2
    exact ⟨own_block (h.eds m hm).1 (fun k hk => (st k (by rw [h5 k hk]; nofun) (by rw [h5 k hk]; nofun)).1), fun k hk => ((st k (by rw [h5 k hk]; nofun) (by rw [h5 k hk]; nofun)).2).trans (h5 k hk)⟩
  · intro j hj
    cases hj
    exact ⟨setOwn_self, k.pl.done⟩
/-- nothing turns but block b, and ks -/
structure Jm (b : Nat) (ks : Option Nat) (w w' : World) : Prop where
  os : w'.os = w.os
  tape : w'.tape = w.tape
  output : w'.output = w.output
  size : w.heap.size ≤ w'.heap.size
  block : ∀ j, j < w.heap.size → j ≠ b → some j ≠ ks → w'.heap[j]? = w.heap[j]?
theorem Jm.refl (b : Nat) (ks : Option Nat) (w : World) : Jm b ks w w := ⟨rfl, rfl, rfl, Nat.le_refl _, fun _ _ _ _ => rfl⟩
theorem Jm.trans {b : Nat} {ks : Option Nat} {w1 w2 w3 : World} (h : Jm b ks w1 w2) (k : Jm b ks w2 w3) : Jm b ks w1 w3 :=
  ⟨k.os.trans h.os, k.tape.trans h.tape, k.output.trans h.output, Nat.le_trans h.size k.size, fun j hj h1 h2 => (k.block j (Nat.lt_of_lt_of_le hj h.size) h1 h2).trans (h.block j hj h1 h2)⟩
theorem Jm.of_below {b : Nat} {ks : Option Nat} {w w' : World} (h : Below w.heap.size w w') : Jm b ks w w' := ⟨h.os, h.tape, h.output, h.size, fun j hj _ _ => h.block j hj⟩
theorem Jm.weak {b : Nat} {ks : Option Nat} {w w' : World} (h : Jm b none w w') : Jm b ks w w' := ⟨h.os, h.tape, h.output, h.size, fun j hj h1 _ => h.block j hj h1 (by nofun)⟩
/-- a block that is new is none that was there -/
theorem Jm.fresh {b : Nat} {ks : Option Nat} {k : Nat} {w0 w w' : World} (h0 : Jm b ks w0 w) (h : Jm b (some k) w w') (hk : w0.heap.size ≤ k) : Jm b ks w0 w' :=
  ⟨h.os.trans h0.os, h.tape.trans h0.tape, h.output.trans h0.output, Nat.le_trans h0.size h.size, fun j hj h1 h2 => (h.block j (Nat.lt_of_lt_of_le hj h0.size) h1 (fun e => by cases e; omega)).trans (h0.block j hj h1 h2)⟩
theorem Jm.below {b B : Nat} {ks : Option Nat} {w w' : World} (h : Jm b ks w w') (hB : B ≤ w.heap.size) (hb : B ≤ b) (hk : ∀ k, ks = some k → B ≤ k) : Below B w w' :=
  ⟨h.os, h.tape, h.output, h.size, fun j hj => h.block j (by omega) (by omega) (fun e => by have := hk j e.symm; omega)⟩
theorem find_ok2 (B : Nat) (w : World) (b : Nat) (l : EL) (G : GL) (L : Nat → Prop) (V : GV) (s : ByteArray) (h : GAtL B w b l G L V) (hB : B ≤ w.heap.size) (hl : EOk B w l) (hs : s.size ≤ 9223372036854775807) :
    Calls Try.prog 47 #[.pointer (some ⟨b, 0, none⟩), .string s] w fun e w' => Found l s e ∧ ∃ V', GAtL B w' b l G L V' ∧ Mv V.own w V'.own w' ∧ V'.sm = V.sm ∧ Jm b none w w' := by
  cases hk : V.pm with
  | some k => exact (find_have B w b l G L V s k h hB hk hs).mono fun e w' hh => ⟨hh.1, V, hh.2.1, hh.2.2.1, rfl, Jm.of_below hh.2.2.2⟩
  | none =>
    have hbx := h.bx
    unfold gcells at hbx
    rw [hk] at hbx
    have hbB := (h.lo b (by rw [h.ob]; nofun)).1
    refine (callsIn_wide.1 (find_make w b l V.rv V.sv V.vv V.qv (.int .i64 (G.most : Nat)) _ rfl s 6 (Nat.le_refl _) hbx B hB hl.el hl.n hbB hs hl.sz)).mono fun e w' hh => ?_
    obtain ⟨h1, h2⟩ := h.ofJF hB hk rfl hh.2
    exact ⟨hh.1, _, h1, h2, rfl, ⟨h2.os, h2.tape, h2.output, h2.size, fun j hj hne _ => hh.2.blk j hj hne⟩⟩
theorem find_ok (B : Nat) (w : World) (b : Nat) (l : EL) (G : GL) (L : Nat → Prop) (V : GV) (s : ByteArray) (h : GAtL B w b l G L V) (hB : B ≤ w.heap.size) (hl : EOk B w l) (hs : s.size ≤ 9223372036854775807) :
    Calls Try.prog 47 #[.pointer (some ⟨b, 0, none⟩), .string s] w fun e w' => Found l s e ∧ ∃ V', GAtL B w' b l G L V' ∧ Mv V.own w V'.own w' :=
  (find_ok2 B w b l G L V s h hB hl hs).mono fun e w' ⟨h1, V', h2, h3, _⟩ => ⟨h1, V', h2, h3⟩
end Go.Proofs.Ytecedbjkebdeaaa
