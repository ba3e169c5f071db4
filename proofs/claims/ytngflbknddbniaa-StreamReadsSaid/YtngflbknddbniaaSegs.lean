/-
  Plain facts on what scripts of steps write, and what reading it gives.
-/
import Derived.Test.YtngflbknddbniaaOps
namespace Go.Proofs.Ytngflbknddbniaa
open Go.RowKit
set_option linter.unusedVariables false
set_option linter.unusedSimpArgs false

/-- the bits that an accepted step appends to B -/
def seg (B : List Bool) (op : OpV) : List Bool :=
  if op.what = 0 then nb op.v op.w.toNat else if op.what = 1 then List.replicate ((8 - B.length % 8) % 8) false else bitsOf op.b
def wrote (D : List OpV) : List Bool := D.foldl (fun B op => B ++ seg B op) []
theorem wrote_snoc (D : List OpV) (op : OpV) : wrote (D ++ [op]) = wrote D ++ seg (wrote D) op := by simp [wrote, List.foldl_append]
theorem wrote_prefix (D E : List OpV) : ∃ R, wrote (D ++ E) = wrote D ++ R := by
  suffices h : ∀ (E : List OpV) (B : List Bool), ∃ R, E.foldl (fun B op => B ++ seg B op) B = B ++ R by
    obtain ⟨R, hR⟩ := h E (wrote D)
    exact ⟨R, by rw [← hR]; simp [wrote, List.foldl_append]⟩
  intro E
  induction E with
  | nil => exact fun B => ⟨[], by simp⟩
  | cons op E ih =>
    intro B
    obtain ⟨R, hR⟩ := ih (B ++ seg B op)
    exact ⟨seg B op ++ R, by rw [List.foldl_cons, hR, List.append_assoc]⟩
theorem wrote_at (D : List OpV) (j : Nat) (h : j < D.length) : ∃ R, wrote D = wrote (D.take j) ++ seg (wrote (D.take j)) D[j] ++ R := by
  have e : D = D.take (j + 1) ++ D.drop (j + 1) := (List.take_append_drop _ _).symm
  obtain ⟨R, hR⟩ := wrote_prefix (D.take (j + 1)) (D.drop (j + 1))
  rw [← e] at hR
  refine ⟨R, ?_⟩
  rw [hR, List.take_succ_eq_append_getElem h, wrote_snoc]
theorem wrote_take_succ (D : List OpV) (j : Nat) (h : j < D.length) : wrote (D.take (j + 1)) = wrote (D.take j) ++ seg (wrote (D.take j)) D[j] := by
  rw [List.take_succ_eq_append_getElem h, wrote_snoc]

theorem wb_bits (B : List Bool) : ∃ m, bitsOf (wb B) = B ++ List.replicate m false ∧ (B = [] → m = 8) ∧ (B ≠ [] → m < 8) := by
  unfold wb
  by_cases h : B = []
  · subst h
    refine ⟨8, ?_, fun _ => rfl, fun h => absurd rfl h⟩
    rw [if_pos rfl]
    decide
  · rw [if_neg h, bitsOf_octs]
    exact ⟨(8 - B.length % 8) % 8, rfl, fun h' => absurd h' h, fun _ => by omega⟩
theorem wb_length (B : List Bool) (m : Nat) (h : bitsOf (wb B) = B ++ List.replicate m false) : 8 * (wb B).length = B.length + m := by
  rw [← bitsOf_length, h]; simp

theorem bitsAt_mid (A S R : List Bool) (k : Nat) (hk : k = S.length) : bitsAt (A ++ S ++ R) A.length k = num S := by
  unfold bitsAt
  rw [List.append_assoc, List.drop_left, hk, List.take_left]
theorem getD_mid (A S R : List Bool) (i : Nat) (hi : i < S.length) : (A ++ S ++ R).getD (A.length + i) false = S.getD i false := by
  rw [List.append_assoc, List.getD_eq_getElem?_getD, List.getElem?_append_right (by omega), List.getD_eq_getElem?_getD, show A.length + i - A.length = i by omega, List.getElem?_append_left hi]
theorem allz_mid (A R : List Bool) (k : Nat) : allz (A ++ List.replicate k false ++ R) A.length k = true := by
  refine allz_true (fun i hi => ?_)
  rw [getD_mid _ _ _ _ (by simpa using hi), List.getD_eq_getElem?_getD, List.getElem?_replicate, if_pos hi]
  rfl
theorem bitsOf_mid (b : List Nat) (i : Nat) (h : i < b.length) : bitsOf b = bitsOf (b.take i) ++ nb b[i] 8 ++ bitsOf (b.drop (i + 1)) := by
  have e : b = b.take i ++ [b[i]] ++ b.drop (i + 1) := by
    rw [← List.take_succ_eq_append_getElem h, List.take_append_drop]
  conv => lhs; rw [e]
  rw [bitsOf_append, bitsOf_append]
  simp [bitsOf]
theorem octetsAt_mid (A R : List Bool) (b : List Nat) (hb : ∀ i, b.getD i 0 < 256) : octetsAt (A ++ bitsOf b ++ R) A.length b.length = b := by
  apply List.ext_getElem
  · simp [octetsAt]
  · intro i h1 h2
    have e : bitsAt (A ++ bitsOf b ++ R) (A.length + 8 * i) 8 = b[i] := by
      have h3 := hb i
      rw [List.getD_eq_getElem?_getD, List.getElem?_eq_getElem h2] at h3
      rw [bitsOf_mid b i h2]
      have e2 : A ++ (bitsOf (b.take i) ++ nb b[i] 8 ++ bitsOf (b.drop (i + 1))) ++ R = (A ++ bitsOf (b.take i)) ++ nb b[i] 8 ++ (bitsOf (b.drop (i + 1)) ++ R) := by simp
      have e3 : A.length + 8 * i = (A ++ bitsOf (b.take i)).length := by rw [List.length_append, bitsOf_length, List.length_take, Nat.min_eq_left (by omega)]
      rw [e2, e3, bitsAt_mid _ _ _ 8 (by rw [nb_length]), num_nb _ _ (by simpa using h3)]
    simp only [octetsAt, List.getElem_map, List.getElem_range]
    exact e
theorem endB_wb (B : List Bool) : endB (wb B) B.length = true := by
  obtain ⟨m, hm, h0, h1⟩ := wb_bits B
  have hl := wb_length B m hm
  unfold endB
  have hne : wb B ≠ [] := by
    intro h
    rw [h] at hl
    simp at hl
    have hB : B = [] := List.eq_nil_of_length_eq_zero (by omega)
    have := h0 hB
    omega
  rw [if_neg hne, hl, hm, show B.length + m - B.length = m by omega]
  have hlt : ¬ (if B.length = 0 then 8 else 7) < m := by
    by_cases hB : B = []
    · rw [h0 hB, hB]; simp
    · have := h1 hB
      have : B.length ≠ 0 := fun h => hB (List.eq_nil_of_length_eq_zero h)
      rw [if_neg this]; omega
  rw [if_neg hlt]
  have := allz_mid B [] m
  rwa [List.append_nil] at this

/-- an accepted step -/
def Fits (op : OpV) : Prop := 0 ≤ op.w ∧ op.w ≤ 64 ∧ op.v < 2 ^ op.w.toNat
theorem seg_length (B : List Bool) (op : OpV) (h : op.what = 0 → Fits op) (hb : op.b.length ≤ 100) : (seg B op).length ≤ 800 := by
  unfold seg
  split
  · rename_i h0
    have := h h0
    rw [nb_length]
    unfold Fits at this
    omega
  · split
    · simp; omega
    · rw [bitsOf_length]; omega

theorem flat4 (D : List OpV) (j k : Nat) (h : j < D.length) (hk : k < 4) : (D.flatMap OpV.cells)[j * 4 + k]? = (D[j].cells)[k]? := by
  induction D generalizing j with
  | nil => simp at h
  | cons op D ih =>
    rw [List.flatMap_cons]
    have hl : op.cells.length = 4 := rfl
    cases j with
    | zero =>
      rw [List.getElem?_append_left (by omega)]
      simp
    | succ j =>
      rw [List.getElem?_append_right (by omega), hl, show (j + 1) * 4 + k - 4 = j * 4 + k by omega, ih j (by simpa using h)]
      simp
theorem flat4_length (D : List OpV) : (D.flatMap OpV.cells).length = D.length * 4 := by
  induction D with
  | nil => rfl
  | cons op D ih => rw [List.flatMap_cons, List.length_append, ih, show op.cells.length = 4 from rfl, List.length_cons]; omega
theorem cells_one (op : OpV) : ∀ u ∈ op.cells, u.oneCell' = true := by
  intro u hu
  simp only [OpV.cells, List.mem_cons, List.not_mem_nil, or_false] at hu
  rcases hu with rfl | rfl | rfl | rfl <;> rfl
theorem info_op : ∃ z, (Try.prog.info? 32).map (fun i => (i.zero, i.size, i.bytes)) = some (some z, 4, 48) ∧ z.cells.size = 4 := ⟨.agg #[.int .i64 0, .int .u64 0, .int .i64 0, .slice none 0 0], by kernel_rfl, rfl⟩

/-- a row of steps of the call's own stays while a block of another kind changes -/
theorem ownsRow_keep {w w' : World} {base n b : Nat} {v : Value} {xs : List Value} (h : w.ownsRow base 32 4 v n xs) (ho : Only b w w') (hb : ∀ cs fr, w.heap[b]? ≠ some (.cells cs 32 fr)) : w'.ownsRow base 32 4 v n xs := by
  obtain ⟨h1, h2⟩ := h
  refine ⟨h1, ?_⟩
  rcases h2 with h2 | ⟨g, cap, cur, hv, hg, hh, r⟩
  · exact .inl h2
  · refine .inr ⟨g, cap, cur, hv, hg, ?_, r⟩
    rw [ho.block g (Array.getElem?_eq_some_iff.1 hh).1 (by rintro rfl; exact hb _ _ hh)]
    exact hh
theorem WrAt.no_op {w : World} {b : Nat} {B : List Bool} (h : WrAt w b B) : ∀ cs fr, w.heap[b]? ≠ some (.cells cs 32 fr) := by
  intro cs fr e
  obtain ⟨s, hs, _⟩ := h
  rw [hs] at e
  unfold wrObj at e
  injection e with e
  injection e with h1 h2 h3
  exact absurd h2 (by decide)
theorem RdAt.no_op {w : World} {b : Nat} {s : Value} {L : List Nat} {p : Nat} (h : RdAt w b s L p) : ∀ cs fr, w.heap[b]? ≠ some (.cells cs 32 fr) := by
  intro cs fr e
  obtain ⟨hs, _⟩ := h
  rw [hs] at e
  injection e with e
  injection e with h1 h2 h3
  exact absurd h2 (by decide)
/-- a Writer stays while the row of steps grows -/
theorem WrAt.grown {w w' : World} {b base n : Nat} {B : List Bool} {v : Value} {xs : List Value} (h : WrAt w b B) (hown : w.ownsRow base 32 4 v n xs) (hg : w.grownBy w' v.ownBlock) : WrAt w' b B := by
  have hlt := h.lt
  have key : ∀ (k : Nat) (cs : Array Value) (t : TypeId) (fr : Nat × Nat), w.heap[k]? = some (Obj.cells cs t fr) → t ≠ 32 → w'.heap[k]? = w.heap[k]? := by
    intro k cs t fr hk ht
    refine hg.block k (Array.getElem?_eq_some_iff.1 hk).1 (fun e => ?_)
    obtain ⟨_, h2⟩ := hown
    rcases h2 with ⟨rfl, _⟩ | ⟨g, cap, cur, rfl, _, hh, _⟩
    · simp [Value.ownBlock] at e
    · simp only [Value.ownBlock, Option.some.injEq] at e
      subst e
      rw [hk] at hh
      injection hh with hh
      injection hh with h1 h2 h3
      exact ht h2
  obtain ⟨c, hc, hch⟩ := h
  refine ⟨c, (key b _ _ _ hc (by decide)).trans hc, hch.keep (fun k c' q' hk => key k _ _ _ hk (by decide)) (fun _ _ => rfl)⟩
end Go.Proofs.Ytngflbknddbniaa
