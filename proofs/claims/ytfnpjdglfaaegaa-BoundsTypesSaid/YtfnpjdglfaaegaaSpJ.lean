/-
  Package spans: ranges joined, in the list's own room.
-/
import Derived.Test.YtfnpjdglfaaegaaSpN
namespace Go.Proofs.Ytfnpjdglfaaegaa
open Go.RowKit Go.Shelf
set_option linter.unusedVariables false
set_option linter.unusedSimpArgs false
set_option maxRecDepth 100000

theorem wpList_append_room {w : World} {ops : Array Oper} {rest : List Oper} {o : Oper} {a : Act} {Q : Exit → Act → World → Prop} (hgd : o.guard = none) (s x : Operand)
    (ho : o.op = .call { callee := .builtin .append, args := #[s, x], argTypes := #[25, 25] })
    (g k cap : Nat) (cur : List Rg) (hs : a.eval s = .slice (some ⟨g, 0, none⟩) k cap) (hrow : Row w g cap cur) (hk : k < cur.length)
    (b : Nat) (x1 x2 : Int) (hx : a.eval x = .slice (some ⟨b, 0, none⟩) 1 1) (hnews : ∀ j u, [Value.int .i64 x1, .int .i64 x2][j]? = some u → w.cell? ((⟨b, 0, none⟩ : Addr).add j) = some u)
    (h : ∀ w', Row w' g cap (cur.set k (x1, x2)) → Only g w w' → wpList Try.prog ops Q rest (a.put o.dst (.slice (some ⟨g, 0, none⟩) (k + 1) cap)) w') : wpList Try.prog ops Q (o :: rest) a w := by
  obtain ⟨i0, hi0, hz0, hz1, hz2⟩ := info_parts info_rg
  refine wpList_plain hgd fun K hK => ?_
  have hle := hrow.le
  obtain ⟨r, h1, h2⟩ := hrow
  have hlen := rcells_length cur
  rw [List.length_append] at h2
  have hr := run_append_room (P := Try.prog) w 25 o.type 51 i0 Try.underlying25 hi0 g k cap (rcells cur ++ r).toArray h1 ⟨b, 0, none⟩ 1 1 [.int .i64 x1, .int .i64 x2] (by rw [hz1]; rfl) hnews (one_rg x1 x2) (by omega) (by rw [hz1]; simp only [List.length_cons, List.length_nil, List.size_toArray, List.length_append]; omega)
  unfold Oper.wp execOp
  simp only [ho, resolve, invoke, builtin, Sem.run_bind, Sem.run_pure, Result.andThen_ok, List.map_toArray, List.map_cons, List.map_nil, hs, hx, hr]
  have e : (rcells cur ++ r).toArray.toList.take (k * i0.size) ++ [.int .i64 x1, .int .i64 x2] ++ (rcells cur ++ r).toArray.toList.drop (k * i0.size + [Value.int .i64 x1, .int .i64 x2].length) = rcells (cur.set k (x1, x2)) ++ r := by
    rw [hz1]
    exact rcells_set cur k (x1, x2) r hk
  rw [e]
  refine hK _ _ (h _ ⟨r, setRow_heap w g _ _ 51 _ h1, ?_⟩ ⟨rfl, rfl, rfl, by simp, fun i hi hne => setRow_other w g i _ hne⟩)
  rw [List.length_append, rcells_length, List.length_set]
  omega
theorem Row.setHi {w : World} {g cap : Nat} {l : List Rg} (h : Row w g cap l) {k : Nat} (hk : k < l.length) (z : Int) : Row (w.setCell ⟨g, k * 2 + 1, none⟩ (.int .i64 z)) g cap (l.set k (l[k]!.1, z)) := by
  have hlt := h.lt
  obtain ⟨r, h1, h2⟩ := h
  refine ⟨r, ?_, ?_⟩
  · rw [Sort.setCell_eq]
    unfold Sort.mapBlock
    show (w.heap.modify g _)[g]? = _
    rw [Array.getElem?_modify, if_pos rfl, h1]
    simp only [Option.map_some, Sort.onCells]
    rw [← rcells_set_hi l k z r hk]
    simp
  · rw [← h2, List.length_append, List.length_append, rcells_length, rcells_length, List.length_set]
/-- what is known ahead of round i -/
structure JR (w : World) (g cap : Nat) (l : List Rg) (i : Nat) (kept cur : List Rg) (wr : World) : Prop where
  row : Row wr g cap cur
  len : cur.length = l.length
  inv : JInv (l.take i) kept
  head : cur.take kept.length = kept
  tail : ∀ j, i ≤ j → j < l.length → cur[j]! = l[j]!
  only : Only g w wr
def RelJ (w : World) (g cap : Nat) (l : List Rg) (kv iv : Value) (wr : World) : Prop :=
  ∃ (i : Nat) (kept cur : List Rg), i ≤ l.length ∧ iv = .int .i64 (i : Nat) ∧ kv = .slice (some ⟨g, 0, none⟩) kept.length cap ∧ JR w g cap l i kept cur wr
theorem JR.keptLe {w wr : World} {g cap : Nat} {l : List Rg} {i : Nat} {kept cur : List Rg} (h : JR w g cap l i kept cur wr) (hi : i ≤ l.length) : kept.length ≤ i := by
  have := h.inv.len
  rw [List.length_take] at this
  omega
theorem set_get_other (l : List Rg) (k j : Nat) (r : Rg) (h : k ≠ j) : (l.set k r)[j]! = l[j]! := by
  simp [List.getElem!_eq_getElem?_getD, List.getElem?_set, h]
theorem take_set_snoc (cur kept : List Rg) (r : Rg) (h : cur.take kept.length = kept) (hl : kept.length < cur.length) : (cur.set kept.length r).take (kept ++ [r]).length = kept ++ [r] := by
  rw [List.length_append, List.length_singleton, List.take_add_one, List.take_set_of_le (Nat.le_refl _), h]
  simp [hl]
theorem JR.app {w wr w4 : World} {g cap : Nat} {l : List Rg} {i : Nat} {kept cur : List Rg} (h : JR w g cap l i kept cur wr) (hi : i < l.length) (hst : stp kept l[i]! = kept ++ [l[i]!]) (hinv : JInv (l.take (i + 1)) (stp kept l[i]!)) (hrow : Row w4 g cap (cur.set kept.length l[i]!)) (ho : Only g w w4) : JR w g cap l (i + 1) (kept ++ [l[i]!]) (cur.set kept.length l[i]!) w4 := by
  have hk := h.keptLe (by omega)
  have hlen := h.len
  refine ⟨hrow, by rw [List.length_set]; exact h.len, by rw [← hst]; exact hinv, take_set_snoc _ _ _ h.head (by omega), fun j h1 h2 => ?_, ho⟩
  rw [set_get_other _ _ _ _ (by omega)]
  exact h.tail j (by omega) h2
theorem JR.join {w wr w4 : World} {g cap : Nat} {l : List Rg} {i : Nat} {a cur : List Rg} {k : Rg} {z : Int} (h : JR w g cap l i (a ++ [k]) cur wr) (hi : i < l.length) (hst : stp (a ++ [k]) l[i]! = a ++ [(k.1, z)]) (hinv : JInv (l.take (i + 1)) (stp (a ++ [k]) l[i]!)) (hrow : Row w4 g cap (cur.set a.length (k.1, z))) (ho : Only g w w4) : JR w g cap l (i + 1) (a ++ [(k.1, z)]) (cur.set a.length (k.1, z)) w4 := by
  have hk := h.keptLe (by omega)
  have hlen := h.len
  have hh := h.head
  rw [List.length_append, List.length_singleton] at hk hh
  have ha : cur.take a.length = a := by
    have := congrArg (List.take a.length) hh
    rw [List.take_take] at this
    simpa [show min a.length (a.length + 1) = a.length by omega] using this
  refine ⟨hrow, by rw [List.length_set]; exact h.len, by rw [← hst]; exact hinv, ?_, fun j h1 h2 => ?_, ho⟩
  · have := take_set_snoc cur a (k.1, z) ha (by omega)
    exact this
  · rw [set_get_other _ _ _ _ (by omega)]
    exact h.tail j (by omega) h2
theorem JR.last {w wr : World} {g cap : Nat} {l : List Rg} {i : Nat} {a cur : List Rg} {k : Rg} (h : JR w g cap l i (a ++ [k]) cur wr) (hi : i ≤ l.length) : a.length < cur.length ∧ cur[a.length]! = k := by
  have hk := h.keptLe hi
  have hlen := h.len
  have hh := h.head
  rw [List.length_append, List.length_singleton] at hk hh
  have h1 : a.length < cur.length := by omega
  refine ⟨h1, ?_⟩
  have h2 : (cur.take (a.length + 1))[a.length]? = some k := by rw [hh]; simp
  rw [List.getElem?_take, if_pos (by omega)] at h2
  rw [List.getElem!_eq_getElem?_getD, h2]
  rfl
end Go.Proofs.Ytfnpjdglfaaegaa
