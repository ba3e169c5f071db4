/-
  The laws' scripts: a slice of steps that came in, cell by cell.
-/
import Derived.Test.YtngflbknddbniaaRead2
import Derived.Deep.Slices
import Derived.ProofKit
import Derived.OpenShut
namespace Go.Proofs.Ytngflbknddbniaa
open Go.RowKit Go.ChangeShapes Go.WideShapes Go.Deep
set_option linter.unusedVariables false
set_option linter.unusedSimpArgs false

/-- one step: what, its number, its width, its octets (with where they lie) -/
structure OpV where
  what : Int
  v : Nat
  w : Int
  sa : Option Addr
  cap : Nat
  b : List Nat
def OpV.cells (op : OpV) : List Value := [.int .i64 op.what, .int .u64 op.v, .int .i64 op.w, .slice op.sa op.b.length op.cap]
def OpV.sl (op : OpV) : Value := .slice op.sa op.b.length op.cap
def OpOk (W : World) (op : OpV) : Prop := SlAt W op.sl op.b ∧ op.v < 18446744073709551616 ∧ -9223372036854775808 ≤ op.w ∧ op.w ≤ 9223372036854775807
/-- the steps lie in block g from offset o on -/
def OpsAt (W : World) (g o : Nat) (ops : List OpV) : Prop := ∀ i (h : i < ops.length), OpOk W ops[i] ∧ ∀ j u, (ops[i].cells)[j]? = some u → W.cell? ⟨g, o + i * 4 + j, none⟩ = some u
def OpsIn (W : World) (a : Option Addr) (len : Nat) (ops : List OpV) : Prop := ops.length = len ∧ (0 < len → ∃ g o, a = some ⟨g, o, none⟩ ∧ OpsAt W g o ops)
theorem OpOk.below {W W' : World} {op : OpV} (h : OpOk W op) (hb : Below W.heap.size W W') : OpOk W' op := ⟨h.1.below hb, h.2⟩
theorem OpsAt.below {W W' : World} {g o : Nat} {ops : List OpV} (h : OpsAt W g o ops) (hb : Below W.heap.size W W') : OpsAt W' g o ops := fun i hi =>
  ⟨(h i hi).1.below hb, fun j u hj => by
    have hc := (h i hi).2 j u hj
    rw [← hc]
    exact World.cell?_of_block (w := W) (hb.block g (World.block_lt_of_cell? W _ hc))⟩

theorem op_cellsOf : Try.prog.cellsOf 32 = 4 := by kernel_rfl
theorem open_op {H : Type} {enc : TypeId × Value → H} {W : World} {fuel : Nat} {cs : List Value} {x : DataW H × List MemPlace}
    (h : DataW.trod enc Try.prog W 0 (fun _ => true) true fuel 32 cs = some x) : ∃ op : OpV, cs = op.cells ∧ OpOk W op := by
  obtain ⟨xs, n, _, _, hlen, hxs, hf⟩ := DataW.trod_struct Try.underlying32 h
  rw [op_cellsOf] at hlen
  match cs, hlen with
  | [c0, c1, c2, c3], _ =>
    have i3 : Try.prog.cellsOf 3 = 1 := by kernel_rfl
    have i29 : Try.prog.cellsOf 29 = 1 := by kernel_rfl
    have i30 : Try.prog.cellsOf 30 = 1 := by kernel_rfl
    have f0 := hf 0 _ rfl
    have f1 := hf 1 _ rfl
    have f2 := hf 2 _ rfl
    have f3 := hf 3 _ rfl
    simp [i3, i29, i30] at f0 f1 f2 f3
    have hx4 : xs.length = 4 := hxs
    have g0 : xs[0]? = some xs[0] := List.getElem?_eq_getElem (by omega)
    have g1 : xs[1]? = some xs[1] := List.getElem?_eq_getElem (by omega)
    have g2 : xs[2]? = some xs[2] := List.getElem?_eq_getElem (by omega)
    have g3 : xs[3]? = some xs[3] := List.getElem?_eq_getElem (by omega)
    rw [g0] at f0
    rw [g1] at f1
    rw [g2] at f2
    rw [g3] at f3
    obtain ⟨a0, e0, _, w0⟩ := DataW.trod_int Try.underlying3 f0
    obtain ⟨a1, e1, _, w1⟩ := DataW.trod_int Try.underlying29 f1
    obtain ⟨a2, e2, _, w2⟩ := DataW.trod_int Try.underlying3 f2
    simp only [List.cons.injEq, and_true] at e0 e1 e2
    subst e0; subst e1; subst e2
    have hb1 : 0 ≤ a1 ∧ a1 < 18446744073709551616 := by
      simp [Lit.wf, IntKind.min, IntKind.max, IntKind.signed, IntKind.bits] at w1
      omega
    have hb2 : -9223372036854775808 ≤ a2 ∧ a2 ≤ 9223372036854775807 := by
      simp [Lit.wf, IntKind.min, IntKind.max, IntKind.signed, IntKind.bits] at w2
      omega
    have hsl : ∃ (a : Option Addr) (len cap : Nat) (zs : List Int), c3 = .slice a len cap ∧ IsRow .u8 W a len cap zs := by
      rcases open_ints Try.underlying30 Try.underlying5 (by kernel_rfl) f3 with ⟨hcs, _⟩ | ⟨y, l, c, zs, hcs, _, hl, hm, hz, _, hcell, hwz⟩
      · simp only [List.cons.injEq, and_true] at hcs
        exact ⟨none, 0, 0, [], hcs, .inl ⟨rfl, rfl, rfl, rfl⟩⟩
      · simp only [List.cons.injEq, and_true] at hcs
        exact ⟨some y, l, c, zs, hcs, .inr ⟨_, rfl, hl, hm, by simpa using hz, hcell, hwz⟩⟩
    obtain ⟨a, len, cap, zs, rfl, hrow⟩ := hsl
    obtain ⟨l, hs, hl⟩ := sl_of_isRow hrow
    refine ⟨⟨a0, a1.toNat, a2, a, cap, l⟩, ?_, ?_, ?_, hb2⟩
    · simp only [OpV.cells, hl]
      rw [show ((a1.toNat : Nat) : Int) = a1 by omega]
    · simp only [OpV.sl, hl]
      exact hs
    · show a1.toNat < _
      omega
theorem open_ops {H : Type} {enc : TypeId × Value → H} {W : World} {a : Option Addr} {len cap : Nat} {d : DataW H} {p : List MemPlace}
    (h : DataW.Trod enc Try.prog W 0 (fun _ => true) true 22 (.slice a len cap) d p) : ∃ ops, OpsIn W a len ops := by
  obtain ⟨fuel, hf⟩ := h
  rcases open_slice Try.underlying22 hf with ⟨hcs, _⟩ | ⟨y, l, c, m, n, D, Pl, hcs, _, hl, hm, hmm, _, hi⟩
  · simp [Value.cells] at hcs
    obtain ⟨rfl, rfl, rfl⟩ := hcs
    exact ⟨[], rfl, fun h => absurd h (by omega)⟩
  · simp [Value.cells] at hcs
    obtain ⟨rfl, rfl, rfl⟩ := hcs
    have hm' : m = cap := by simpa using hmm
    have hop : ∀ i, i < len → ∃ op : OpV, OpOk W op ∧ ∀ j u, op.cells[j]? = some u → W.cell? ((y.add (i * 4)).add j) = some u := by
      intro i hil
      obtain ⟨cs', hc, ht⟩ := hi i (by omega)
      rw [op_cellsOf] at hc
      obtain ⟨op, rfl, hok⟩ := open_op ht
      obtain ⟨_, hcl, hat⟩ := World.cells?_some hc
      refine ⟨op, hok, fun j u hj => ?_⟩
      have hj4 : j < 4 := by have := (List.getElem?_eq_some_iff.1 hj).1; simpa [OpV.cells] using this
      rw [hat j hj4, hj]
    by_cases h0 : 0 < len
    · -- the address has no spot
      obtain ⟨op0, _, hc0⟩ := hop 0 h0
      have hx := hc0 0 _ rfl
      obtain ⟨g, o, sp⟩ := y
      have hs : sp = none := by
        simp only [Nat.zero_mul, Addr.add, if_true] at hx
        unfold World.cell? at hx
        split at hx
        · simp at hx
          cases sp with
          | none => rfl
          | some _ => simp at hx
        · cases hx
      subst hs
      have hch : ∃ ops : List OpV, ops.length = len ∧ ∀ i (h : i < ops.length), OpOk W ops[i] ∧ ∀ j u, (ops[i].cells)[j]? = some u → W.cell? ⟨g, o + i * 4 + j, none⟩ = some u := by
        have key : ∀ k, k ≤ len → ∃ ops : List OpV, ops.length = k ∧ ∀ i (h : i < ops.length), OpOk W ops[i] ∧ ∀ j u, (ops[i].cells)[j]? = some u → W.cell? ⟨g, o + i * 4 + j, none⟩ = some u := by
          intro k
          induction k with
          | zero => exact fun _ => ⟨[], rfl, fun i h => absurd h (by simp)⟩
          | succ k ih =>
            intro hk
            obtain ⟨ops, hlen, hops⟩ := ih (by omega)
            obtain ⟨op, hok, hc⟩ := hop k (by omega)
            refine ⟨ops ++ [op], by simp [hlen], fun i h => ?_⟩
            rcases Nat.lt_or_ge i ops.length with h2 | h2
            · rw [List.getElem_append_left h2]
              exact hops i h2
            · have hi2 : i = k := by simp at h; omega
              subst hi2
              rw [List.getElem_append_right h2]
              simp only [hlen, Nat.sub_self, List.getElem_cons_zero]
              refine ⟨hok, fun j u hj => ?_⟩
              have := hc j u hj
              rwa [Addr.add_mid, Addr.add_mid] at this
        exact key len (Nat.le_refl _)
      obtain ⟨ops, hlen, hops⟩ := hch
      exact ⟨ops, hlen, fun _ => ⟨g, o, rfl, hops⟩⟩
    · have : len = 0 := by omega
      subst this
      exact ⟨[], rfl, fun h => absurd h (by omega)⟩
end Go.Proofs.Ytngflbknddbniaa
