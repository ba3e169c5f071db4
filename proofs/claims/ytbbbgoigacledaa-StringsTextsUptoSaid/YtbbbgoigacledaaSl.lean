/-
  Slices of octets, the law's helper 'same', the Writer's Bytes where it is empty or none, and the document's example.
-/
import Derived.Test.YtbbbgoigacledaaGive
import Derived.Laws.BytesArg
namespace Go.Proofs.Ytbbbgoigacledaa
open Go.RowKit
set_option linter.unusedVariables false
set_option linter.unusedSimpArgs false
set_option maxRecDepth 100000

/-- a slice's value that holds the octets l -/
def SlAt (w : World) (s : Value) (l : List Nat) : Prop := (∃ g o cap, s = .slice (some ⟨g, o, none⟩) l.length cap ∧ DataAt w g o l) ∨ (l = [] ∧ ∃ a cap, s = .slice a 0 cap)
theorem SlAt.below {w w' : World} {s : Value} {l : List Nat} (h : SlAt w s l) (ho : Below w.heap.size w w') : SlAt w' s l := by
  rcases h with ⟨g, o, cap, e, hd⟩ | h
  · exact .inl ⟨g, o, cap, e, hd.below ho⟩
  · exact .inr h
def bstr (l : List Nat) : ByteArray := ⟨(l.map UInt8.ofNat).toArray⟩
theorem bstr_nums (l : List Nat) : strOfNums (l.map fun n : Nat => (n : Int)) = bstr l := by
  unfold strOfNums bstr
  congr 2
  rw [List.map_map]
  rfl
theorem conv_sl (w : World) (s : Value) (l : List Nat) (h : SlAt w s l) : (convert 22 9 s).run Try.prog w = .ok (.string (bstr l)) w := by
  rcases h with ⟨g, o, cap, rfl, hd⟩ | ⟨rfl, a, cap, rfl⟩
  · rw [← bstr_nums]
    refine run_convert_bytes_arg w 22 5 Try.underlying22 Try.underlying5 g o l.length cap _ (by simp) (fun i hi => ?_) 9 Try.underlying9
    rw [hd.cell i hi]
    simp [List.getD_eq_getElem?_getD, hi]
  · cases a with
    | none => exact run_convert_bytes_nil w 22 5 Try.underlying22 Try.underlying5 0 cap 9 Try.underlying9
    | some x =>
      rw [run_convert_bytes_string w 22 9 5 _ _ _ Try.underlying22 Try.underlying5 Try.underlying9]
      exact run_bytesToString w x 0 cap [] rfl
theorem u8s_one (l : List Nat) : ∀ u ∈ u8s l, u.oneCell' = true := by
  intro u hu
  unfold u8s at hu
  simp only [List.mem_map] at hu
  obtain ⟨i, _, rfl⟩ := hu
  rfl
/-- what Bytes tells of the bits B -/
def wb (B : List Bool) : List Nat := if B = [] then [0] else octs B
theorem wb_lt (B : List Bool) (i : Nat) : (wb B).getD i 0 < 256 := by
  unfold wb
  split
  · rcases i with _ | i <;> simp
  · unfold octs
    rw [List.getD_eq_getElem?_getD, List.getElem?_map]
    cases h : (List.range ((B.length + 7) / 8))[i]? with
    | none => simp
    | some j => simpa using oct_lt B j
theorem data_of_row (w : World) (g : Nat) (l : List Nat) (h : w.heap[g]? = some (.cells (u8s l).toArray 5 (0, 0))) (hb : ∀ i, l.getD i 0 < 256) : DataAt w g 0 l :=
  ⟨fun i hi => cell_of_list h (by unfold u8s; rw [Nat.zero_add, List.getElem?_map, List.getElem?_eq_getElem hi]; simp [List.getD_eq_getElem?_getD, hi]), hb⟩
theorem wbytes_any (w : World) (b : Nat) (B : List Bool) (h : WrAt w b B) (hn : B.length ≤ 100000000000) :
    Calls Try.prog 16 #[.pointer (some ⟨b, 0, none⟩)] w fun e w' =>
      e = .returned (.slice (some ⟨w.heap.size, 0, none⟩) (wb B).length (wb B).length) ∧ w'.heap[w.heap.size]? = some (.cells (u8s (wb B)).toArray 5 (0, 0)) ∧ Below w.heap.size w w' := by
  by_cases hB : B = []
  · subst hB
    have h65 := h.len65
    clear h
    go_enter Try.func16, Try.ntmps16
    go_wp2_with fail
    go_ret
    exact ⟨rfl, heap_alloc_new _ _, (Below.refl _ _).alloc (Nat.le_refl _) _⟩
  · refine (wbytes_ok w b B h hB hn).mono ?_
    rintro e w' ⟨rfl, h1, h2⟩
    unfold wb
    rw [if_neg hB, octs_length]
    exact ⟨rfl, h1, h2⟩
theorem wbytes_nil (w : World) : Calls Try.prog 16 #[.pointer none] w fun e w' =>
      e = .returned (.slice (some ⟨w.heap.size, 0, none⟩) 1 1) ∧ w'.heap[w.heap.size]? = some (.cells (u8s [0]).toArray 5 (0, 0)) ∧ Below w.heap.size w w' := by
  go_enter Try.func16, Try.ntmps16
  go_wp2_with fail
  go_ret
  exact ⟨rfl, heap_alloc_new _ _, (Below.refl _ _).alloc (Nat.le_refl _) _⟩
theorem sl_of_row {w : World} {g : Nat} {l : List Nat} {n : Nat} (h : w.heap[g]? = some (.cells (u8s l).toArray 5 (0, 0))) (hb : ∀ i, l.getD i 0 < 256) (hn : n = l.length) : SlAt w (.slice (some ⟨g, 0, none⟩) n n) l :=
  .inl ⟨g, 0, l.length, by rw [hn], data_of_row w g l h hb⟩

/-- a new Writer -/
def newCells : Array Value := #[.pointer none] ++ Array.replicate 64 (.int .u8 0) ++ #[.int .i64 0]
theorem build_writer (w : World) : (Instr.build 56 #[]).run Try.prog w = .ok (.agg newCells) w := by kernel_rfl
theorem new_obj : Obj.cells newCells 56 (0, 0) = wrObj none [] := by
  unfold wrObj wrCells
  rw [octCells_zero [] _ (by simp)]
  rfl
theorem wr_new (w : World) : WrAt (w.alloc (.cells newCells 56)) w.heap.size [] :=
  ⟨none, (heap_alloc_new w _).trans (congrArg some new_obj), rfl⟩
theorem wpList_box_writer {ops : Array Oper} {rest : List Oper} {o1 o2 : Oper} {a : Act} {Q : Exit → Act → World → Prop} {w : World} (hg1 : o1.guard = none) (hop1 : o1.op = Op.build 56 #[])
    (hg2 : o2.guard = none) (d : Tmp) (hd : o1.dst = some d) (hop2 : o2.op = Op.box 56 (.tmp d)) (hsz : (a.put (some d) (.agg newCells)).eval (.tmp d) = .agg newCells)
    (hK : ∀ w1 : World, WrAt w1 w.heap.size [] → Below w.heap.size w w1 → w.heap.size < w1.heap.size →
      wpList Try.prog ops Q rest ((a.put o1.dst (.agg newCells)).put o2.dst (.pointer (some ⟨w.heap.size, 0, none⟩))) w1) : wpList Try.prog ops Q (o1 :: o2 :: rest) a w := by
  refine wpList_plain hg1 fun K hK' => ?_
  unfold Oper.wp
  have e1 : (execOp a.eval o1).run Try.prog w = .ok (.value (.agg newCells)) w := by
    unfold execOp
    simp only [hop1, List.map_toArray, List.map_nil, Sem.run_bind, build_writer w, Sem.run_pure, Result.andThen_ok]
  rw [e1]
  refine hK' _ _ (wpList_plain hg2 fun K2 hK2 => ?_)
  unfold Oper.wp
  have e2 : (execOp (a.put o1.dst (.agg newCells)).eval o2).run Try.prog w = .ok (.value (.pointer (some ⟨w.heap.size, 0, none⟩))) (w.alloc (.cells newCells 56)) := by
    unfold execOp
    simp only [hop2, hd, hsz]
    rfl
  rw [e2]
  exact hK2 _ _ (hK _ (wr_new w) ((Below.refl _ _).alloc (Nat.le_refl _) _) (by simp))

theorem zero_writer (w : World) : (zeroValue 56).run Try.prog w = .ok (.agg newCells) w := by kernel_rfl
/-- a slice of integers that came in -/
def IsRow (k : IntKind) (w : World) (a : Option Addr) (len cap : Nat) (zs : List Int) : Prop :=
  (a = none ∧ len = 0 ∧ cap = 0 ∧ zs = []) ∨
  ∃ x, a = some x ∧ len ≤ cap ∧ cap ≤ maxLen ∧ zs.length = cap ∧ (∀ i, i < zs.length → w.cell? (x.add i) = some (.int k (zs.getD i 0))) ∧ ∀ n ∈ zs, (Lit.int k n).wf = true
theorem sl_of_isRow {w : World} {a : Option Addr} {len cap : Nat} {zs : List Int} (h : IsRow .u8 w a len cap zs) : ∃ l, SlAt w (.slice a len cap) l ∧ l.length = len := by
  rcases h with ⟨rfl, rfl, rfl, rfl⟩ | ⟨x, rfl, hl, hm, hz, hc, hw⟩
  · exact ⟨[], .inr ⟨rfl, _, _, rfl⟩, rfl⟩
  · by_cases h0 : len = 0
    · subst h0
      exact ⟨[], .inr ⟨rfl, _, _, rfl⟩, rfl⟩
    · have hx := hc 0 (by omega)
      obtain ⟨g, o, sp⟩ := x
      have hs : sp = none := by
        simp only [Addr.add, if_true] at hx
        unfold World.cell? at hx
        split at hx
        · simp at hx
          cases sp with
          | none => rfl
          | some _ => simp at hx
        · cases hx
      subst hs
      have hr : ∀ n ∈ zs, 0 ≤ n ∧ n < 256 := by
        intro n hn
        have := hw n hn
        simp [Lit.wf, IntKind.min, IntKind.max, IntKind.signed, IntKind.bits] at this
        omega
      refine ⟨(zs.take len).map Int.toNat, .inl ⟨g, o, cap, by simp; omega, ⟨fun i hi => ?_, fun i => ?_⟩⟩, by simp; omega⟩
      · have hi1 : i < len := by simp at hi; omega
        have := hc i (by omega)
        rw [Addr.add_mid] at this
        rw [this]
        have hi2 : i < zs.length := by omega
        have hr2 := hr zs[i] (List.getElem_mem hi2)
        have e1 : ((zs.take len).map Int.toNat).getD i 0 = zs[i].toNat := by
          rw [List.getD_eq_getElem?_getD, List.getElem?_map, List.getElem?_take, if_pos hi1, List.getElem?_eq_getElem hi2]; rfl
        have e2 : zs.getD i 0 = zs[i] := by rw [List.getD_eq_getElem?_getD, List.getElem?_eq_getElem hi2]; rfl
        rw [e1, e2]
        congr 2
        omega
      · rw [List.getD_eq_getElem?_getD, List.getElem?_map]
        cases h : (zs.take len)[i]? with
        | none => simp
        | some n =>
          have := hr n (List.mem_of_mem_take (List.mem_of_getElem? h))
          simp; omega
theorem sl_lt {w : World} {s : Value} {l : List Nat} {g o cap : Nat} (h : SlAt w s l) (e : s = .slice (some ⟨g, o, none⟩) l.length cap) (hne : l ≠ []) : g < w.heap.size := by
  rcases h with ⟨g', o', cap', e', hd⟩ | ⟨h0, _⟩
  · rw [e] at e'
    simp at e'
    have h0 : 0 < l.length := by cases l <;> simp_all
    have := World.block_lt_of_cell? w _ (hd.cell 0 h0)
    rw [e'.1.1]
    exact this
  · exact absurd h0 hne
theorem sl_ptr {w : World} {a : Option Addr} {n cap : Nat} {l : List Nat} (h : SlAt w (.slice a n cap) l) (hl : l.length = n) (hn : 0 < n) : ∃ g o, a = some ⟨g, o, none⟩ ∧ DataAt w g o l := by
  rcases h with ⟨g', o', cap', e', hd⟩ | ⟨h0, _⟩
  · simp at e'
    exact ⟨g', o', e'.1, hd⟩
  · subst h0
    simp at hl
    omega
theorem woctets_sl (w : World) (b : Nat) (B : List Bool) (s : Value) (l : List Nat) (h : WrAt w b B) (hs : SlAt w s l) (hg : ∀ g o cap, s = .slice (some ⟨g, o, none⟩) l.length cap → l ≠ [] → g ≠ b) (hn : B.length ≤ 10000000000) (hl : l.length ≤ 1000000000) :
    Calls Try.prog 34 #[.pointer (some ⟨b, 0, none⟩), s] w fun e w' => e = .returned (.int .i64 0) ∧ WrAt w' b (B ++ bitsOf l) ∧ Only b w w' := by
  by_cases hl0 : l = []
  · subst hl0
    have e : ∃ a cap, s = .slice a 0 cap := by
      rcases hs with ⟨g, o, cap, rfl, hd⟩ | ⟨_, a, cap, rfl⟩
      · exact ⟨_, _, rfl⟩
      · exact ⟨_, _, rfl⟩
    obtain ⟨a, cap, rfl⟩ := e
    refine (woctets_none w b B a cap h).mono ?_
    rintro e w' ⟨rfl, rfl⟩
    exact ⟨rfl, by simpa [bitsOf] using h, Only.refl _ _⟩
  · rcases hs with ⟨g, o, cap, rfl, hd⟩ | ⟨h0, _⟩
    · exact woctets_at w b B g o cap l h hd (hg g o cap rfl hl0) hn hl
    · exact absurd h0 hl0
theorem Only.setCell {b : Nat} {w : World} (o : Nat) (v : Value) : Only b w (w.setCell ⟨b, o, none⟩ v) :=
  ⟨rfl, rfl, rfl, by simp, fun k hk hkb => heap_setCell_other _ _ _ _ hkb⟩
theorem WrAt.setCell {w : World} {b g o : Nat} {B : List Bool} {v : Value} {cs : Array Value} (h : WrAt w b B) (hg : w.heap[g]? = some (.cells cs 5 (0, 0))) : WrAt (w.setCell ⟨g, o, none⟩ v) b B := by
  have hne : b ≠ g := by
    rintro rfl
    obtain ⟨c, hc, _⟩ := h
    rw [hc] at hg
    unfold wrObj at hg
    injection hg with hg
    injection hg with h1 h2 h3
    exact absurd h2 (by decide)
  refine h.keep (Only.setCell o v) hne (fun c' q' e => ?_)
  rw [hg] at e
  unfold chObj at e
  injection e with e
  injection e with h1 h2 h3
  exact absurd h2 (by decide)
end Go.Proofs.Ytbbbgoigacledaa
