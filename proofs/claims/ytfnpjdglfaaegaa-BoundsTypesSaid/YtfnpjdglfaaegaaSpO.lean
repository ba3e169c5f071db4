/-
  A row of ranges of one's own; the sort over it.
-/
import Derived.Test.YtfnpjdglfaaegaaSpH
import Derived.Shelf.SlSortCmp.NoneTotal
namespace Go.Proofs.Ytfnpjdglfaaegaa
open Go.RowKit Go.Shelf
set_option linter.unusedVariables false
set_option linter.unusedSimpArgs false
set_option maxRecDepth 100000

structure Only (b : Nat) (w w' : World) : Prop where
  os : w'.os = w.os
  tape : w'.tape = w.tape
  output : w'.output = w.output
  size : w.heap.size ≤ w'.heap.size
  block : ∀ k, k < w.heap.size → k ≠ b → w'.heap[k]? = w.heap[k]?
theorem Only.refl (b : Nat) (w : World) : Only b w w := ⟨rfl, rfl, rfl, Nat.le_refl _, fun _ _ _ => rfl⟩
theorem Only.trans {b : Nat} {w1 w2 w3 : World} (h : Only b w1 w2) (k : Only b w2 w3) : Only b w1 w3 :=
  ⟨k.os.trans h.os, k.tape.trans h.tape, k.output.trans h.output, Nat.le_trans h.size k.size, fun i hi hb => (k.block i (Nat.lt_of_lt_of_le hi h.size) hb).trans (h.block i hi hb)⟩
theorem Only.of_below {b : Nat} {w w' : World} (h : Below w.heap.size w w') : Only b w w' := ⟨h.os, h.tape, h.output, h.size, fun k hk _ => h.block k hk⟩
theorem Only.below {b B : Nat} {w w' : World} (h : Only b w w') (hB : B ≤ b) (hs : B ≤ w.heap.size) : Below B w w' :=
  ⟨h.os, h.tape, h.output, h.size, fun k hk => h.block k (by omega) (by omega)⟩
theorem Only.setCell {b : Nat} {w : World} (o : Nat) (v : Value) : Only b w (w.setCell ⟨b, o, none⟩ v) :=
  ⟨rfl, rfl, rfl, by simp [World.setCell], fun k hk hkb => Below.heap_setCell w ⟨b, o, none⟩ v k hkb⟩

/-! ### cells -/
def rcells (l : List Rg) : List Value := l.flatMap encR
theorem rcells_cons (r : Rg) (l : List Rg) : rcells (r :: l) = .int .i64 r.1 :: .int .i64 r.2 :: rcells l := rfl
theorem rcells_append (a b : List Rg) : rcells (a ++ b) = rcells a ++ rcells b := by simp [rcells]
theorem rcells_one (r : Rg) : rcells [r] = [.int .i64 r.1, .int .i64 r.2] := rfl
theorem rcells_length : ∀ (l : List Rg), (rcells l).length = l.length * 2
  | [] => rfl
  | r :: l => by rw [rcells_cons, List.length_cons, List.length_cons, rcells_length l, List.length_cons]; omega
theorem rcells_get : ∀ (l : List Rg) (i : Nat), i < l.length → (rcells l)[i * 2]? = some (.int .i64 l[i]!.1) ∧ (rcells l)[i * 2 + 1]? = some (.int .i64 l[i]!.2)
  | [], _, h => absurd h (Nat.not_lt_zero _)
  | r :: l, 0, _ => ⟨rfl, rfl⟩
  | r :: l, i + 1, h => by
    have ih := rcells_get l i (by simpa using h)
    rw [rcells_cons, show (i + 1) * 2 = i * 2 + 1 + 1 by omega, List.getElem?_cons_succ, List.getElem?_cons_succ, List.getElem?_cons_succ, List.getElem?_cons_succ]
    rw [show (r :: l)[i + 1]! = l[i]! by simp]
    exact ih
theorem rcells_oneCell (l : List Rg) : ∀ u ∈ rcells l, u.oneCell' = true := by
  intro u hu
  unfold rcells at hu
  rw [List.mem_flatMap] at hu
  obtain ⟨r, _, hu⟩ := hu
  simp [encR] at hu
  rcases hu with rfl | rfl <;> rfl
theorem rcells_set : ∀ (l : List Rg) (k : Nat) (r : Rg) (rest : List Value), k < l.length → (rcells l ++ rest).take (k * 2) ++ [.int .i64 r.1, .int .i64 r.2] ++ (rcells l ++ rest).drop (k * 2 + 2) = rcells (l.set k r) ++ rest
  | [], _, _, _, h => absurd h (Nat.not_lt_zero _)
  | x :: l, 0, r, rest, _ => by simp [rcells_cons]
  | x :: l, k + 1, r, rest, h => by
    have ih := rcells_set l k r rest (by simpa using h)
    rw [rcells_cons, List.set_cons_succ, rcells_cons, show (k + 1) * 2 = k * 2 + 1 + 1 by omega]
    simp only [List.cons_append, List.take_succ_cons, List.drop_succ_cons]
    rw [← ih]
theorem rcells_set_hi : ∀ (l : List Rg) (k : Nat) (h : Int) (rest : List Value), k < l.length → (rcells l ++ rest).set (k * 2 + 1) (.int .i64 h) = rcells (l.set k (l[k]!.1, h)) ++ rest
  | [], _, _, _, hk => absurd hk (Nat.not_lt_zero _)
  | x :: l, 0, h, rest, _ => by simp [rcells_cons]
  | x :: l, k + 1, h, rest, hk => by
    have ih := rcells_set_hi l k h rest (by simpa using hk)
    rw [rcells_cons, List.set_cons_succ, rcells_cons, show (k + 1) * 2 + 1 = k * 2 + 1 + 1 + 1 by omega]
    simp only [List.cons_append, List.set_cons_succ]
    rw [ih]
    simp

/-! ### a row of one's own -/
def OwnR (base : Nat) (w : World) (v : Value) (l : List Rg) : Prop := w.ownsRow base 51 2 v l.length (rcells l)
theorem OwnR.nil (base : Nat) (w : World) : OwnR base w (.slice none 0 0) [] := World.ownsRow_nil _ _ _ _
theorem OwnR.keep {base : Nat} {w w' : World} {v : Value} {l : List Rg} (h : OwnR base w v l) (hk : ∀ k, base ≤ k → k < w.heap.size → w'.heap[k]? = w.heap[k]?) : OwnR base w' v l := by
  obtain ⟨h1, h2⟩ := h
  refine ⟨h1, ?_⟩
  rcases h2 with h2 | ⟨g, cap, cur, hv, hg, hh, r⟩
  · exact .inl h2
  · exact .inr ⟨g, cap, cur, hv, hg, (hk g hg (Array.getElem?_eq_some_iff.1 hh).1).trans hh, r⟩
theorem OwnR.below {base : Nat} {w w' : World} {v : Value} {l : List Rg} (h : OwnR base w v l) (hb : Below w.heap.size w w') : OwnR base w' v l := h.keep fun k _ hk => hb.block k hk
theorem OwnR.base {base b2 : Nat} {w : World} {v : Value} {l : List Rg} (h : OwnR base w v l) (hb : b2 ≤ base) : OwnR b2 w v l := by
  obtain ⟨h1, h2⟩ := h
  refine ⟨h1, ?_⟩
  rcases h2 with h2 | ⟨g, cap, cur, hv, hg, r⟩
  · exact .inl h2
  · exact .inr ⟨g, cap, cur, hv, by omega, r⟩
theorem own_snoc {base : Nat} {w : World} {v : Value} {l : List Rg} {x y : Int} (h : w.ownsRow base 51 2 v (l.length + 1) (rcells l ++ [.int .i64 x, .int .i64 y])) : OwnR base w v (l ++ [(x, y)]) := by
  unfold OwnR
  rw [rcells_append, rcells_one, List.length_append, List.length_singleton]
  exact h
theorem OwnR.rsl {base : Nat} {w : World} {v : Value} {l : List Rg} (h : OwnR base w v l) (hb : Bd l) : RSl w v l := by
  refine ⟨hb, ?_⟩
  rcases h.2 with ⟨hv, h0⟩ | ⟨g, cap, cur, hv, hg, hh, hc, hm, hs, ht⟩
  · exact .inr ⟨List.length_eq_zero_iff.1 h0, none, 0, hv⟩
  · refine .inl ⟨g, 0, cap, hv, hc, fun i hi => ?_⟩
    have hcells := World.ownsRow.cells h (g := g) (by rw [hv]; rfl)
    obtain ⟨g1, g2⟩ := rcells_get l i hi
    have c1 := hcells _ _ g1
    have c2 := hcells _ _ g2
    rw [Addr.add_mid] at c1 c2
    rw [Nat.add_assoc]
    exact ⟨c1, c2⟩
def rgZero : Value := .agg #[.int .i64 0, .int .i64 0]
theorem info_rg : (Try.prog.info? 51).map (fun i => (i.zero, i.size, i.bytes)) = some (some rgZero, 2, 16) := by kernel_rfl
theorem info_parts {t : TypeId} {z : Value} {s b : Nat} (h : (Try.prog.info? t).map (fun i => (i.zero, i.size, i.bytes)) = some (some z, s, b)) :
    ∃ i, Try.prog.info? t = some i ∧ i.zero = some z ∧ i.size = s ∧ i.bytes = b := by
  cases hi : Try.prog.info? t with
  | none => rw [hi] at h; cases h
  | some i =>
    rw [hi] at h
    simp at h
    exact ⟨i, rfl, h.1, h.2.1, h.2.2⟩
theorem new_rg (w : World) (x y : Int) : ∀ j u, [Value.int .i64 x, .int .i64 y][j]? = some u → (w.alloc (.cells #[.int .i64 x, .int .i64 y] 51)).cell? ((⟨w.heap.size, 0, none⟩ : Addr).add j) = some u := by
  intro j u hj
  rw [Addr.add_mid, Nat.zero_add]
  match j, hj with
  | 0, hj => obtain rfl : Value.int .i64 x = u := Option.some.inj hj; simp
  | 1, hj => obtain rfl : Value.int .i64 y = u := Option.some.inj hj; simp
theorem one_rg (x y : Int) : ∀ u ∈ [Value.int .i64 x, .int .i64 y], u.oneCell' = true := rcells_oneCell [(x, y)]
theorem own_grown {base : Nat} {w w4 : World} {v : Value} {l : List Rg} {B : Nat} {W : World} (hb : Below B W w) (ho : OwnR base w v l) (hB : B ≤ base) (hBw : B ≤ w.heap.size) (o : Obj) (hg : (w.alloc o).grownBy w4 v.ownBlock) : Below B W w4 := by
  refine (hb.alloc hBw o).grown hg (by simp; omega) (fun k hk => ?_)
  have := (ho.lt k hk).1
  omega

/-! ### a row in a block -/
def Row (w : World) (g cap : Nat) (l : List Rg) : Prop := ∃ rest : List Value, w.heap[g]? = some (.cells (rcells l ++ rest).toArray 51 (0, 0)) ∧ (rcells l ++ rest).length = cap * 2
theorem Row.lt {w : World} {g cap : Nat} {l : List Rg} (h : Row w g cap l) : g < w.heap.size := by
  obtain ⟨r, h, _⟩ := h
  exact (Array.getElem?_eq_some_iff.1 h).1
theorem Row.le {w : World} {g cap : Nat} {l : List Rg} (h : Row w g cap l) : l.length ≤ cap := by
  obtain ⟨r, _, h⟩ := h
  rw [List.length_append, rcells_length] at h
  omega
theorem Row.keep {w w' : World} {g cap : Nat} {l : List Rg} (h : Row w g cap l) (hb : w'.heap[g]? = w.heap[g]?) : Row w' g cap l := by
  obtain ⟨r, h1, h2⟩ := h
  exact ⟨r, hb.trans h1, h2⟩
theorem Row.below {w w' : World} {g cap : Nat} {l : List Rg} (h : Row w g cap l) (hb : Below w.heap.size w w') : Row w' g cap l := h.keep (hb.block g h.lt)
theorem cell_row {w : World} {b j : Nat} {l : List Value} {t : TypeId} {fr : Nat × Nat} {v : Value} (hb : w.heap[b]? = some (.cells l.toArray t fr)) (hv : l[j]? = some v) : w.cell? ⟨b, j, none⟩ = some v := by
  simp [World.cell?, hb, hv]
theorem Row.cell {w : World} {g cap : Nat} {l : List Rg} (h : Row w g cap l) (i : Nat) (hi : i < l.length) : w.cell? ⟨g, i * 2, none⟩ = some (.int .i64 l[i]!.1) ∧ w.cell? ⟨g, i * 2 + 1, none⟩ = some (.int .i64 l[i]!.2) := by
  obtain ⟨r, h1, _⟩ := h
  obtain ⟨g1, g2⟩ := rcells_get l i hi
  have hlen := rcells_length l
  exact ⟨cell_row h1 (by rw [List.getElem?_append_left (by omega)]; exact g1), cell_row h1 (by rw [List.getElem?_append_left (by omega)]; exact g2)⟩
theorem Row.frozen {w : World} {g cap : Nat} {l : List Rg} (h : Row w g cap l) (j : Nat) : w.frozen? ⟨g, j, none⟩ = false := by
  obtain ⟨r, h1, _⟩ := h
  simp [World.frozen?, h1]
theorem OwnR.row {base : Nat} {w : World} {v : Value} {l : List Rg} (h : OwnR base w v l) (hl : 0 < l.length) : ∃ g cap, v = .slice (some ⟨g, 0, none⟩) l.length cap ∧ base ≤ g ∧ cap ≤ maxLen ∧ Row w g cap l := by
  rcases h.2 with ⟨_, h0⟩ | ⟨g, cap, cur, hv, hg, hh, hc, hm, hs, ht⟩
  · omega
  · refine ⟨g, cap, hv, hg, hm, cur.toList.drop (l.length * 2), ?_, ?_⟩
    · rw [← ht, List.take_append_drop]
      exact hh
    · rw [← ht, List.take_append_drop]
      simpa using hs
theorem Row.own {base : Nat} {w : World} {g cap n : Nat} {l : List Rg} (h : Row w g cap l) (hb : base ≤ g) (hm : cap ≤ maxLen) (hn : n ≤ l.length) : OwnR base w (.slice (some ⟨g, 0, none⟩) n cap) (l.take n) := by
  have hle := h.le
  obtain ⟨r, h1, h2⟩ := h
  have hln : (l.take n).length = n := by simp; omega
  refine ⟨rcells_length _, .inr ⟨g, cap, _, by rw [hln], hb, h1, by omega, hm, by simpa using h2, ?_⟩⟩
  have e : l = l.take n ++ l.drop n := (List.take_append_drop n l).symm
  have e2 : (rcells l ++ r) = rcells (l.take n) ++ (rcells (l.drop n) ++ r) := by
    conv => lhs; rw [e, rcells_append, List.append_assoc]
  show (rcells l ++ r).take _ = _
  rw [e2, ← rcells_length]
  exact List.take_left

/-! ### the sort -/
theorem flat_cells (l : List Rg) : Sort.flatK encR 2 l.toArray = (rcells l).toArray := by
  refine Sort.ext_get! (by simp [rcells_length]) fun t ht => ?_
  have ht2 : t < l.length * 2 := by simpa using ht
  rw [Sort.get_flatK _ _ _ _ (by simpa using ht2)]
  have hi : t / 2 < l.length := by omega
  obtain ⟨g1, g2⟩ := rcells_get l (t / 2) hi
  have hx : (l.toArray)[t / 2]! = l[t / 2]! := by simp
  rw [hx]
  rcases Nat.mod_two_eq_zero_or_one t with h | h
  · rw [h]
    rw [show t / 2 * 2 = t by omega] at g1
    have : (rcells l).toArray[t]! = Value.int .i64 l[t / 2]!.1 := by
      rw [Array.getElem!_eq_getD, Array.getD_eq_getD_getElem?, List.getElem?_toArray, g1]; rfl
    rw [this]; rfl
  · rw [h]
    rw [show t / 2 * 2 + 1 = t by omega] at g2
    have : (rcells l).toArray[t]! = Value.int .i64 l[t / 2]!.2 := by
      rw [Array.getElem!_eq_getD, Array.getD_eq_getD_getElem?, List.getElem?_toArray, g2]; rfl
    rw [this]; rfl
theorem Row.holds {w : World} {g cap : Nat} {l : List Rg} (h : Row w g cap l) : Sort.HoldsK encR 2 w g 0 l.toArray := by
  unfold Sort.HoldsK
  rw [flat_cells]
  intro j hj
  have hfr := h.frozen (0 + j)
  obtain ⟨r, h1, _⟩ := h
  refine ⟨?_, hfr⟩
  have hj2 : j < (rcells l).length := by simpa using hj
  rw [Nat.zero_add]
  refine cell_row h1 ?_
  rw [List.getElem?_append_left hj2, List.getElem?_eq_getElem hj2]
  simp [hj2]
theorem put_cells (a b r : List Value) (h : a.length = b.length) : Sort.putCells id 0 b.toArray (a ++ r).toArray = (b ++ r).toArray := by
  apply Array.ext_getElem?
  intro k
  unfold Sort.putCells
  rw [Array.getElem?_mapIdx, List.getElem?_toArray, List.getElem?_toArray]
  rcases Nat.lt_or_ge k a.length with hk | hk
  · rw [List.getElem?_append_left hk, List.getElem?_append_left (by omega), List.getElem?_eq_getElem hk, List.getElem?_eq_getElem (show k < b.length by omega)]
    simp [show k < b.length by omega]
  · rw [List.getElem?_append_right hk, List.getElem?_append_right (by omega), h]
    cases r[k - b.length]? with
    | none => rfl
    | some x => simp [show ¬ k < b.length by omega]
theorem Row.sorted {w : World} {g cap n : Nat} {l l' : List Rg} {os : Array Obj} (h : Row w g cap l) (hl : l'.length = l.length) : Row (sortWorldK encR 2 w g 0 n l'.toArray os) g cap l' ∧ Only g w (sortWorldK encR 2 w g 0 n l'.toArray os) := by
  have hlt := h.lt
  obtain ⟨r, h1, h2⟩ := h
  have hsz : (Sort.putRowK encR 2 (Sort.ahead w n) g 0 l'.toArray).heap.size = w.heap.size := by unfold Sort.putRowK; simp
  have hold : ∀ k, k < w.heap.size → (sortWorldK encR 2 w g 0 n l'.toArray os).heap[k]? = (Sort.putRowK encR 2 (Sort.ahead w n) g 0 l'.toArray).heap[k]? := by
    intro k hk
    unfold sortWorldK Sort.grow
    exact Array.getElem?_append_left (by rw [hsz]; exact hk)
  refine ⟨⟨r, ?_, ?_⟩, ?_⟩
  · rw [hold g hlt]
    unfold Sort.putRowK Sort.putRow Sort.mapBlock
    rw [flat_cells]
    show (w.heap.modify g _)[g]? = _
    rw [Array.getElem?_modify, if_pos rfl, h1]
    simp only [Option.map_some, Sort.onCells]
    rw [put_cells _ _ _ (by rw [rcells_length, rcells_length, hl])]
  · rw [← h2, List.length_append, List.length_append, rcells_length, rcells_length, hl]
  · refine ⟨rfl, rfl, rfl, ?_, fun k hk hkg => ?_⟩
    · unfold sortWorldK Sort.grow
      rw [Array.size_append, hsz]
      omega
    · rw [hold k hk]
      unfold Sort.putRowK Sort.putRow Sort.mapBlock
      show (w.heap.modify g _)[k]? = _
      rw [Array.getElem?_modify, if_neg (fun e => hkg e.symm)]
theorem sort_ok (w : World) (g cap : Nat) (l : List Rg) (h : Row w g cap l) (hl : l.length ≤ 1000000000) :
    Calls Try.prog 58 #[.slice (some ⟨g, 0, none⟩) l.length cap, .func (.func 59) #[] #[]] w fun e w' =>
      e = .returned (.tuple #[]) ∧ ∃ l', l'.Perm l ∧ (∀ i j, i < j → j < l'.length → l'[i]!.1 ≤ l'[j]!.1) ∧ Row w' g cap l' ∧ Only g w w' := by
  have eg : ∀ args w, (callFunc 59 args).run Try.prog w = .ok (.enter 59 args) w := enters_of Try.func59 (by kernel_rfl) rfl
  have hcon := AnyQ.slices_SortFunc Try.sortRg 2 Try.isAgg51 Try.sizeOf51 encR (fun _ => rfl) (fun x v hv => by simp [encR] at hv; rcases hv with rfl | rfl <;> rfl) (fun x y => Lib.compareInt x.1 y.1) swoLo 59 #[] g 0 cap l.toArray w eg (fun _ _ _ _ x y => cmp_ok x.1 x.2 y.1 y.2 _) h.holds h.lt (by simp; omega)
  refine Calls.mono (show Calls Try.prog 58 #[.slice (some ⟨g, 0, none⟩) l.length cap, .func (.func 59) #[] #[]] w _ from hcon) ?_
  rintro e w' ⟨rfl, d', n, os, hp, hs, rfl⟩
  have hsize : d'.toList.length = l.length := by have := hp.1; simpa using this
  have hrow := h.sorted (n := n) (os := os) (l' := d'.toList) hsize
  rw [show d'.toList.toArray = d' from rfl] at hrow
  refine ⟨rfl, d'.toList, ?_, fun i j hij hj => ?_, hrow.1, hrow.2⟩
  · have h3 := hp.2.2
    have h4 : d'.size = l.length := by simpa using hsize
    have h7 : (d'.extract 0 d'.size).toList.Perm (l.toArray.extract 0 l.length).toList := by rw [h4]; exact h3
    simpa using h7
  · have h5 := hs i j (Nat.zero_le _) hij (by rw [hsize] at hj; simpa using hj)
    rw [compareLo] at h5
    have h6 := of_decide_eq_false h5
    have hjd : j < d'.size := by simpa using hj
    simp only [List.getElem!_eq_getElem?_getD, Array.getElem?_toList] at *
    simp only [Array.getElem!_eq_getD, Array.getD_eq_getD_getElem?] at h6
    omega
theorem sort_none (w : World) (a : Option Addr) (cap : Nat) :
    Calls Try.prog 58 #[.slice a 0 cap, .func (.func 59) #[] #[]] w fun e w' => e = .returned (.tuple #[]) ∧ w' = w :=
  AnyF.slices_SortFunc_none Try.sortRg a cap _ w
end Go.Proofs.Ytfnpjdglfaaegaa
