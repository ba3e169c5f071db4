/-
  A slice of octets of one's own that may grow, and the reference's strings of 0 and 1.
-/
import Derived.Test.YtbbbgoigacledaaWb
import Derived.Lib.ConvBytes
import Derived.ArgAppend
namespace Go.Proofs.Ytbbbgoigacledaa
open Go.RowKit
set_option linter.unusedVariables false
set_option linter.unusedSimpArgs false
set_option maxRecDepth 100000

/-- the slice v holds the cells xs, in a block from base on that may be written -/
def Buf (w : World) (base : Nat) (v : Value) (xs : List Value) : Prop :=
  ∃ g cap cur fz, v = .slice (some ⟨g, 0, none⟩) xs.length cap ∧ base ≤ g ∧ w.heap[g]? = some (.cells cur 5 fz) ∧ (∀ j, j < cap → w.frozen? ⟨g, j, none⟩ = false) ∧ xs.length ≤ cap ∧ cur.size = cap ∧ cur.toList.take xs.length = xs
theorem Buf.cell {w : World} {base : Nat} {v : Value} {xs : List Value} (h : Buf w base v xs) : ∃ g cap, v = .slice (some ⟨g, 0, none⟩) xs.length cap ∧ ∀ j u, xs[j]? = some u → w.cell? ⟨g, j, none⟩ = some u := by
  obtain ⟨g, cap, cur, fz, hv, hb, hg, hf, hl, hs, ht⟩ := h
  refine ⟨g, cap, hv, fun j u hj => ?_⟩
  rw [cell_of_row w g j _ _ _ hg]
  have hjl := (List.getElem?_eq_some_iff.1 hj).1
  rw [← ht, List.getElem?_take, if_pos hjl, Array.getElem?_toList] at hj
  exact hj
theorem wpList_push {ops : Array Oper} {rest : List Oper} {o : Oper} {a : Act} {Q : Exit → Act → World → Prop} {w w0 : World} (hgd : o.guard = none) (s x : Operand)
    (ho : o.op = Op.call { callee := Callee.builtin Builtin.append, args := #[s, x], argTypes := #[22, 22] })
    (v : Value) (xs : List Value) (hs : a.eval s = v) (hbuf : Buf w w0.heap.size v xs) (hb : Below w0.heap.size w0 w) (ad : Addr) (u : Value) (hx : a.eval x = .slice (some ad) 1 1) (hc : w.cell? (ad.add 0) = some u) (h1 : u.oneCell' = true) (hlen : xs.length + 1 ≤ 1000000000)
    (h : ∀ v' w', Buf w' w0.heap.size v' (xs ++ [u]) → Below w0.heap.size w0 w' → wpList Try.prog ops Q rest (a.put o.dst v') w') : wpList Try.prog ops Q (o :: rest) a w := by
  obtain ⟨i0, hi, hz0, hz1, hz2⟩ := info_parts info_u8
  obtain ⟨g, cap, cur, fz, hv, hbase, hg, hf, hl, hsz, ht⟩ := hbuf
  have hcells : ∀ j u, xs[j]? = some u → w.cell? ⟨g, 0 + j, none⟩ = some u := by
    intro j u hj
    rw [Nat.zero_add, cell_of_row w g j _ _ _ hg]
    have hjl := (List.getElem?_eq_some_iff.1 hj).1
    rw [← ht, List.getElem?_take, if_pos hjl, Array.getElem?_toList] at hj
    exact hj
  refine wpList_append_arg w hgd s x 22 ho 5 i0 (.int .u8 0) 1 1 Try.underlying22 hi hz0 hz1 hz2 rfl (by decide) g 0 xs.length cap xs (hs.trans hv) (by simp) hcells ad 1 1 [u] hx rfl
    (fun j u' hj => ?_) (fun u' hu => ?_) (fun hroom j hj => ?_) (by unfold maxLen; omega) (by omega) (fun hroom => ?_) (fun hgrow v' w' hown hgr => ?_)
  · cases j with
    | zero => simp at hj; subst hj; exact hc
    | succ j => simp at hj
  · simp at hu; subst hu; exact h1
  · have hj0 : j = 0 := by simpa using hj
    subst hj0
    have e : 0 + xs.length * 1 + 0 = xs.length := by omega
    rw [e]
    refine ⟨?_, hf _ (by omega)⟩
    have hlt : xs.length < cur.size := by rw [hsz]; exact hroom
    rw [cell_of_row w g _ _ _ _ hg, Array.getElem?_eq_getElem hlt]
    rfl
  · have e : 0 + xs.length * 1 = xs.length := by omega
    rw [e]
    have hset : (w.setCell ⟨g, xs.length, none⟩ u).heap[g]? = some (.cells (cur.setIfInBounds xs.length u) 5 fz) := by
      rw [setCell_eq_setRow w g xs.length cur _ fz u hg]
      exact setRow_heap w g cur _ _ _ hg
    refine h _ _ ⟨g, cap, cur.setIfInBounds xs.length u, fz, by simp, hbase, hset, fun j hj => ?_, by simpa using hroom, by simpa using hsz, ?_⟩ (hb.setCell hbase u)
    · show (w.setCell ⟨g, xs.length, none⟩ u).frozen? ⟨g, j, none⟩ = false
      rw [World.frozen?_setCell]; exact hf j hj
    · have hlt : xs.length < cur.toList.length := by
        have h2 : cur.toList.length = cap := by rw [← hsz]; exact Array.length_toList
        omega
      rw [Array.toList_setIfInBounds, List.length_append, List.length_singleton]
      rw [List.take_succ_eq_append_getElem (by rw [List.length_set]; exact hlt), List.getElem_set_self, List.take_set_of_le (Nat.le_refl _), ht]
  · obtain ⟨h2, h3⟩ := hown
    have hsize := hb.size
    rcases h3 with ⟨_, h4⟩ | ⟨g', cap', cur', hv', hb', hg', hn', _, hs', ht'⟩
    · omega
    · refine h _ _ ⟨g', cap', cur', (0, 0), by rw [List.length_append]; exact hv', by omega, hg', fun j _ => frozen_of_row _ _ _ _ _ hg', by rw [List.length_append]; exact hn', by rw [hs', Nat.mul_one], ?_⟩ (hb.grown hgr hsize (fun k hk => by cases hk))
      rw [List.length_append]
      rw [Nat.mul_one] at ht'
      exact ht'

/-! ### the reference's strings of bits -/
def bch (b : Bool) : Nat := if b then 49 else 48
def bcells (B : List Bool) : List Value := B.map fun b => Value.int .u8 (bch b : Nat)
def bchars (B : List Bool) : ByteArray := ⟨(B.map fun b => UInt8.ofNat (bch b)).toArray⟩
theorem bchars_size (B : List Bool) : (bchars B).size = B.length := by simp [bchars, ByteArray.size]
theorem bcells_length (B : List Bool) : (bcells B).length = B.length := by simp [bcells]
theorem bcells_append (A B : List Bool) : bcells (A ++ B) = bcells A ++ bcells B := by simp [bcells]
theorem buf_conv (w : World) (B : List Bool) (hB : B.length ≤ 1000000000) :
    ∃ v w1, (convert 9 22 (.string (bchars B))).run Try.prog w = .ok v w1 ∧ Buf w1 w.heap.size v (bcells B) ∧ Below w.heap.size w w1 := by
  refine ⟨_, _, Lib.run_convert_string_bytes (P := Try.prog) w 9 22 5 (bchars B) Try.underlying9 Try.underlying22 Try.underlying5, ?_, ?_⟩
  · have hge := grownCap_ge w (bchars B).size 0 5
    have hsz : (Lib.bytesCells w 5 (bchars B)).size = grownCap w (bchars B).size 0 5 := by
      simp only [Lib.bytesCells, Array.size_append, Array.size_map, Array.size_replicate]
      have : (bchars B).data.size = (bchars B).size := rfl
      omega
    refine ⟨w.heap.size, _, _, _, by rw [bcells_length, bchars_size], Nat.le_refl _, Lib.bytesWorld_at_new w _ _, fun j hj => ?_, by rw [bcells_length, ← bchars_size]; exact hge, hsz, ?_⟩
    · have h1 := Lib.bytesWorld_at_new w 5 (bchars B)
      simp only [World.frozen?, h1]
      rw [hsz]
      simp
      omega
    · rw [bcells_length, Lib.bytesCells, Array.toList_append, List.take_append_of_le_length (by simp [bchars])]
      rw [List.take_of_length_le (by simp [bchars])]
      simp only [bchars, bcells, Array.toList_map, List.map_map]
      apply List.map_congr_left
      intro b _
      cases b <;> rfl
  · refine ⟨rfl, rfl, rfl, by rw [Lib.bytesWorld_size]; omega, fun k hk => Lib.bytesWorld_at_old w _ _ k hk⟩
theorem wpList_conv {ops : Array Oper} {rest : List Oper} {o : Oper} {a : Act} {Q : Exit → Act → World → Prop} {w : World} (hgd : o.guard = none) (x : Operand) (ho : o.op = Op.convert 9 22 x) (B : List Bool) (hB : B.length ≤ 1000000000) (hx : a.eval x = .string (bchars B))
    (h : ∀ v w1, Buf w1 w.heap.size v (bcells B) → Below w.heap.size w w1 → wpList Try.prog ops Q rest (a.put o.dst v) w1) : wpList Try.prog ops Q (o :: rest) a w := by
  obtain ⟨v, w1, hrun, h1, h2⟩ := buf_conv w B hB
  refine wpList_plain hgd fun K hK => ?_
  unfold Oper.wp
  have e : (execOp a.eval o).run Try.prog w = .ok (.value v) w1 := by
    unfold execOp
    simp only [ho, hx, Sem.run_bind, hrun, Sem.run_pure, Result.andThen_ok]
  rw [e]
  exact hK _ _ (h v w1 h1 h2)
theorem conv_back (w : World) (base : Nat) (v : Value) (B : List Bool) (h : Buf w base v (bcells B)) : (convert 22 9 v).run Try.prog w = .ok (.string (bchars B)) w := by
  obtain ⟨g, cap, rfl, hc⟩ := h.cell
  have e : strOfNums (B.map fun b => ((bch b : Nat) : Int)) = bchars B := by
    unfold strOfNums bchars
    congr 2
    rw [List.map_map]
    rfl
  rw [← e]
  refine run_convert_bytes_arg w 22 5 Try.underlying22 Try.underlying5 g 0 _ cap _ (by rw [List.length_map, bcells_length]) (fun i hi => ?_) 9 Try.underlying9
  rw [Nat.zero_add]
  refine hc i _ ?_
  rw [bcells_length] at hi
  simp [bcells, List.getD_eq_getElem?_getD, hi]
end Go.Proofs.Ytbbbgoigacledaa
