/-
  The laws of package spans: the document's example; arguments opened.
-/
import Derived.Test.YtfnpjdglfaaegaaSpV
import Derived.Deep.Slices
import Derived.ProofKit
import Derived.OpenShut
namespace Go.Proofs.Ytfnpjdglfaaegaa
open Go.RowKit Go.Shelf Go.ChangeShapes Go.WideShapes Go.Deep
set_option linter.unusedVariables false
set_option linter.unusedSimpArgs false
set_option maxRecDepth 100000

theorem exA {r : List Rg} (h : Says r (mem [(5, 7), (1, 3), (4, 4)])) : r = [(1, 7)] :=
  h.eq (q := fun n => 1 ≤ n ∧ n ≤ 7) ⟨rgt_one.2 (by simp), by simp [Bd, I64], fun n _ => mem_one⟩ fun n _ => by
    rw [mem_cons, mem_cons, mem_one]
    simp only
    omega
theorem exB {r : List Rg} (h : Says r (fun n => mem [(1, 9)] n ∧ ¬ mem [(3, 4)] n)) : r = [(1, 2), (5, 9)] :=
  h.eq (q := mem [(1, 2), (5, 9)]) ⟨by rw [rgt_cons]; exact ⟨by simp, by simp, rgt_one.2 (by simp)⟩, by simp [Bd, I64], fun n _ => Iff.rfl⟩ fun n _ => by
    rw [mem_one (r := (1, 9)), mem_one (r := (3, 4)), mem_cons, mem_one]
    simp only
    omega
theorem lit_below (w : World) (o : Obj) : Below w.heap.size w (w.alloc o) := (Below.refl _ _).alloc (Nat.le_refl _) o
theorem lit_below2 {B : Nat} {w0 w : World} (h : Below B w0 w) (hB : B ≤ w.heap.size) (o : Obj) : Below B w0 (w.alloc o) := h.alloc hB o
/-! ### arguments -/
theorem rg_cellsOf : Try.prog.cellsOf 51 = 2 := by kernel_rfl
theorem open_rg {H : Type} {enc : TypeId × Value → H} {W : World} {fuel : Nat} {cs : List Value} {x : DataW H × List MemPlace}
    (h : DataW.trod enc Try.prog W 0 (fun _ => true) true fuel 51 cs = some x) : ∃ r : Rg, cs = encR r ∧ I64 r.1 ∧ I64 r.2 := by
  obtain ⟨xs, n, _, _, hlen, hxs, hf⟩ := DataW.trod_struct Try.underlying51 h
  rw [rg_cellsOf] at hlen
  match cs, hlen with
  | [c0, c1], _ =>
    have i3 : Try.prog.cellsOf 3 = 1 := by kernel_rfl
    have f0 := hf 0 _ rfl
    have f1 := hf 1 _ rfl
    simp [i3] at f0 f1
    have hx2 : xs.length = 2 := hxs
    have g0 : xs[0]? = some xs[0] := List.getElem?_eq_getElem (by omega)
    have g1 : xs[1]? = some xs[1] := List.getElem?_eq_getElem (by omega)
    rw [g0] at f0
    rw [g1] at f1
    obtain ⟨a0, e0, _, w0⟩ := DataW.trod_int Try.underlying3 f0
    obtain ⟨a1, e1, _, w1⟩ := DataW.trod_int Try.underlying3 f1
    simp only [List.cons.injEq, and_true] at e0 e1
    subst e0; subst e1
    refine ⟨(a0, a1), rfl, ?_, ?_⟩
    · simp [Lit.wf, IntKind.min, IntKind.max, IntKind.signed, IntKind.bits] at w0
      unfold I64; omega
    · simp [Lit.wf, IntKind.min, IntKind.max, IntKind.signed, IntKind.bits] at w1
      unfold I64; omega
theorem open_rs {H : Type} {enc : TypeId × Value → H} {W : World} {a : Option Addr} {len cap : Nat} {d : DataW H} {p : List MemPlace}
    (h : DataW.Trod enc Try.prog W 0 (fun _ => true) true 25 (.slice a len cap) d p) : ∃ l, RSl W (.slice a len cap) l ∧ l.length = len ∧ len ≤ maxLen := by
  obtain ⟨fuel, hf⟩ := h
  rcases open_slice Try.underlying25 hf with ⟨hcs, _⟩ | ⟨y, l, c, m, n, D, Pl, hcs, _, hl, hm, hmm, _, hi⟩
  · simp [Value.cells] at hcs
    obtain ⟨rfl, rfl, rfl⟩ := hcs
    exact ⟨[], ⟨Bd.nil, .inr ⟨rfl, _, _, rfl⟩⟩, rfl, Nat.zero_le _⟩
  · simp [Value.cells] at hcs
    obtain ⟨rfl, rfl, rfl⟩ := hcs
    have hm' : m = cap := by simpa using hmm
    have hop : ∀ i, i < len → ∃ r : Rg, (I64 r.1 ∧ I64 r.2) ∧ ∀ j u, (encR r)[j]? = some u → W.cell? ((y.add (i * 2)).add j) = some u := by
      intro i hil
      obtain ⟨cs', hc, ht⟩ := hi i (by omega)
      rw [rg_cellsOf] at hc
      obtain ⟨r, rfl, hok⟩ := open_rg ht
      obtain ⟨_, hcl, hat⟩ := World.cells?_some hc
      refine ⟨r, hok, fun j u hj => ?_⟩
      have hj4 : j < 2 := by have := (List.getElem?_eq_some_iff.1 hj).1; simpa [encR] using this
      rw [hat j hj4, hj]
    by_cases h0 : 0 < len
    · obtain ⟨r0, _, hc0⟩ := hop 0 h0
      have hx := hc0 0 _ rfl
      obtain ⟨g, o, sp⟩ := y
      have hs : sp = none := by
        simp only [Nat.zero_mul, Addr.add, if_true] at hx
        unfold World.cell? at hx
        split at hx
        · simp at hx
          cases sp with
          | none => rfl
          | some _ => simp at hx
        · cases hx
      subst hs
      have key : ∀ k, k ≤ len → ∃ l : List Rg, l.length = k ∧ Bd l ∧ ∀ i, i < l.length → W.cell? ⟨g, o + i * 2, none⟩ = some (.int .i64 l[i]!.1) ∧ W.cell? ⟨g, o + i * 2 + 1, none⟩ = some (.int .i64 l[i]!.2) := by
        intro k
        induction k with
        | zero => exact fun _ => ⟨[], rfl, Bd.nil, fun i h => absurd h (by simp)⟩
        | succ k ih =>
          intro hk
          obtain ⟨l, hlen, hbd, hc⟩ := ih (by omega)
          obtain ⟨r, hok, hr⟩ := hop k (by omega)
          refine ⟨l ++ [r], by simp [hlen], Bd.append.2 ⟨hbd, Bd.cons.2 ⟨hok, Bd.nil⟩⟩, fun i h => ?_⟩
          rcases Nat.lt_or_ge i l.length with h2 | h2
          · have e : (l ++ [r])[i]! = l[i]! := by rw [getElem!_pos _ i h, getElem!_pos l i h2, List.getElem_append_left h2]
            rw [e]
            exact hc i h2
          · have hi2 : i = k := by simp at h; omega
            subst hi2
            have e : (l ++ [r])[i]! = r := by rw [getElem!_pos _ i h, List.getElem_append_right h2]; simp [hlen]
            rw [e]
            have h1 := hr 0 _ rfl
            have h3 := hr 1 _ rfl
            rw [Addr.add_mid, Addr.add_mid] at h1 h3
            exact ⟨h1, h3⟩
      obtain ⟨l, hlen, hbd, hc⟩ := key len (Nat.le_refl _)
      refine ⟨l, ⟨hbd, .inl ⟨g, o, cap, by rw [hlen], by omega, hc⟩⟩, hlen, by omega⟩
    · have : len = 0 := by omega
      subst this
      exact ⟨[], ⟨Bd.nil, .inr ⟨rfl, _, _, rfl⟩⟩, rfl, Nat.zero_le _⟩
end Go.Proofs.Ytfnpjdglfaaegaa
