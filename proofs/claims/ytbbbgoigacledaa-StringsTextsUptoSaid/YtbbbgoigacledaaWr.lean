/-
  What a Writer is in memory, bit by bit ('WrAt'), and its inner method 'add' in these words.
-/
import Derived.Test.YtbbbgoigacledaaAdd
import Derived.Test.YtbbbgoigacledaaBits
import Derived.Laws.CopyRow
namespace Go.Proofs.Ytbbbgoigacledaa
open Go.RowKit
set_option linter.unusedVariables false
set_option linter.unusedSimpArgs false
set_option maxRecDepth 100000

/-- only block b may have changed, and blocks may have come -/
structure Only (b : Nat) (w w' : World) : Prop where
  os : w'.os = w.os
  tape : w'.tape = w.tape
  output : w'.output = w.output
  size : w.heap.size ≤ w'.heap.size
  block : ∀ k, k < w.heap.size → k ≠ b → w'.heap[k]? = w.heap[k]?
theorem Only.refl (b : Nat) (w : World) : Only b w w := ⟨rfl, rfl, rfl, Nat.le_refl _, fun _ _ _ => rfl⟩
theorem Only.trans {b : Nat} {x y z : World} (h : Only b x y) (k : Only b y z) : Only b x z :=
  ⟨k.os.trans h.os, k.tape.trans h.tape, k.output.trans h.output, Nat.le_trans h.size k.size, fun i hi hb => (k.block i (by have := h.size; omega) hb).trans (h.block i hi hb)⟩
theorem Only.of_below {b : Nat} {w w' : World} (h : Below w.heap.size w w') : Only b w w' := ⟨h.os, h.tape, h.output, h.size, fun k hk _ => h.block k hk⟩
theorem Only.below {b B : Nat} {w w' : World} (h : Only b w w') (hb : B ≤ b) (hB : B ≤ w.heap.size) : Below B w w' := ⟨h.os, h.tape, h.output, h.size, fun k hk => h.block k (by omega) (by omega)⟩
theorem Only.drew {b : Nat} {w w' : World} (h : Only b w w') : Only b w w'.drew := ⟨h.os, h.tape, h.output, h.size, h.block⟩

/-! ### many cells set -/
theorem os_setCells (b : Nat) : ∀ (vs : List Value) (o : Nat) (w : World), (w.setCells b o vs).os = w.os ∧ (w.setCells b o vs).tape = w.tape ∧ (w.setCells b o vs).output = w.output ∧ (w.setCells b o vs).heap.size = w.heap.size
  | [], _, _ => ⟨rfl, rfl, rfl, rfl⟩
  | v :: r, o, w => by
    obtain ⟨h1, h2, h3, h4⟩ := os_setCells b r (o + 1) (w.setCell ⟨b, o, none⟩ v)
    rw [World.setCells]
    exact ⟨h1, h2, h3, h4.trans (by simp)⟩
theorem heap_setCells_other (b k : Nat) (hk : k ≠ b) : ∀ (vs : List Value) (o : Nat) (w : World), (w.setCells b o vs).heap[k]? = w.heap[k]?
  | [], _, _ => rfl
  | v :: r, o, w => by
    rw [World.setCells, heap_setCells_other b k hk r (o + 1), heap_setCell_other _ _ _ _ hk]
theorem heap_setCells_same (b : Nat) (t : TypeId) : ∀ (vs : List Value) (o : Nat) (w : World) (cs : List Value), w.heap[b]? = some (.cells cs.toArray t (0, 0)) → o + vs.length ≤ cs.length →
    (w.setCells b o vs).heap[b]? = some (.cells (cs.take o ++ vs ++ cs.drop (o + vs.length)).toArray t (0, 0))
  | [], o, w, cs, h, _ => by simpa [World.setCells] using h
  | v :: r, o, w, cs, h, hl => by
    have h1 := heap_setCell_same w b o cs.toArray t v h
    rw [List.setIfInBounds_toArray] at h1
    rw [World.setCells, heap_setCells_same b t r (o + 1) _ _ h1 (by simp at hl ⊢; omega)]
    congr 2
    have e := list_seg_step cs o v r (by simp at hl; omega)
    rw [List.length_cons, ← e]

/-! ### a Writer -/
/-- the 64 octets of chunk q -/
def octCells (B : List Bool) (q : Nat) : List Value := (List.range 64).map fun i => Value.int .u8 (oct B (64 * q + i))
theorem octCells_length (B : List Bool) (q : Nat) : (octCells B q).length = 64 := by simp [octCells]
theorem octCells_get (B : List Bool) (q i : Nat) (h : i < 64) : (octCells B q)[i]? = some (.int .u8 (oct B (64 * q + i))) := by simp [octCells, h]
def wrCells (c : Option Addr) (B : List Bool) (n : Nat) : List Value := Value.pointer c :: (octCells B (n / 512) ++ [.int .i64 n])
theorem wrCells_length (c : Option Addr) (B : List Bool) (n : Nat) : (wrCells c B n).length = 66 := by simp [wrCells, octCells_length]
def wrObj (c : Option Addr) (B : List Bool) : Obj := .cells (wrCells c B B.length).toArray 56 (0, 0)
def chObj (c : Option Addr) (B : List Bool) (q : Nat) : Obj := .cells (Value.pointer c :: octCells B q).toArray 72 (0, 0)
def Chain (w : World) (B : List Bool) : Nat → Option Addr → Prop
  | 0, c => c = none
  | q + 1, c => ∃ d c', c = some ⟨d, 0, none⟩ ∧ w.heap[d]? = some (chObj c' B q) ∧ Chain w B q c'
/-- block b is a Writer that holds the bits B -/
def WrAt (w : World) (b : Nat) (B : List Bool) : Prop := ∃ c, w.heap[b]? = some (wrObj c B) ∧ Chain w B (B.length / 512) c

theorem wr_ne_ch (c c' : Option Addr) (B B' : List Bool) (q : Nat) : wrObj c B ≠ chObj c' B' q := by
  unfold wrObj chObj
  intro h
  injection h with h1 h2 h3
  exact absurd h2 (by decide)
theorem Chain.keep {w w' : World} {B B' : List Bool} : ∀ {q : Nat} {c : Option Addr}, Chain w B q c → (∀ (k : Nat) (c' : Option Addr) (q' : Nat), w.heap[k]? = some (chObj c' B q') → w'.heap[k]? = w.heap[k]?) → (∀ j, j < 64 * q → oct B' j = oct B j) → Chain w' B' q c
  | 0, _, h, _, _ => h
  | q + 1, c, ⟨d, c', e, hd, hc⟩, hk, ho => by
    refine ⟨d, c', e, ?_, hc.keep hk (fun j hj => ho j (by omega))⟩
    rw [hk d c' q hd, hd]
    unfold chObj octCells
    congr 4
    apply List.map_congr_left
    intro i hi
    rw [ho (64 * q + i) (by simp at hi; omega)]
theorem WrAt.lt {w : World} {b : Nat} {B : List Bool} (h : WrAt w b B) : b < w.heap.size := by
  obtain ⟨c, hc, _⟩ := h
  exact (Array.getElem?_eq_some_iff.1 hc).1
/-- a Writer stays while only another block changes that is no chunk -/
theorem WrAt.keep {w w' : World} {b b' : Nat} {B : List Bool} (h : WrAt w b B) (ho : Only b' w w') (hb : b ≠ b') (hn : ∀ c' q', w.heap[b']? ≠ some (chObj c' B q')) : WrAt w' b B := by
  have hlt := h.lt
  obtain ⟨c, hc, hch⟩ := h
  refine ⟨c, (ho.block b hlt hb).trans hc, hch.keep (fun k c' q' hk => ho.block k (Array.getElem?_eq_some_iff.1 hk).1 (fun e => ?_)) (fun _ _ => rfl)⟩
  subst e
  exact hn _ _ hk
theorem WrAt.keep_wr {w w' : World} {b b' : Nat} {B B' : List Bool} (h : WrAt w b B) (h' : WrAt w b' B') (ho : Only b' w w') (hb : b ≠ b') : WrAt w' b B :=
  h.keep ho hb (fun c' q' e => by
    obtain ⟨c, hc, _⟩ := h'
    rw [hc] at e
    injection e with e
    exact wr_ne_ch _ _ _ _ _ e)
theorem WrAt.below {w w' : World} {b : Nat} {B : List Bool} (h : WrAt w b B) (ho : Below w.heap.size w w') : WrAt w' b B := by
  have hlt := h.lt
  obtain ⟨c, hc, hch⟩ := h
  exact ⟨c, (ho.block b hlt).trans hc, hch.keep (fun k c' q' hk => ho.block k (Array.getElem?_eq_some_iff.1 hk).1) (fun _ _ => rfl)⟩

/-! ### its cells -/
theorem wrCells_head (c : Option Addr) (B : List Bool) (n : Nat) : (wrCells c B n)[0]? = some (.pointer c) := rfl
theorem wrCells_oct (c : Option Addr) (B : List Bool) (n i : Nat) (h : i < 64) : (wrCells c B n)[1 + i]? = some (.int .u8 (oct B (64 * (n / 512) + i))) := by
  unfold wrCells
  rw [Nat.add_comm, List.getElem?_cons_succ, List.getElem?_append_left (by rw [octCells_length]; exact h), octCells_get _ _ _ h]
theorem wrCells_len (c : Option Addr) (B : List Bool) (n : Nat) : (wrCells c B n)[65]? = some (.int .i64 n) := by
  unfold wrCells
  rw [show 65 = 64 + 1 from rfl, List.getElem?_cons_succ, List.getElem?_append_right (by rw [octCells_length]; omega), octCells_length]
  rfl
/-- the two stores of 'add' -/
theorem wrCells_set (c : Option Addr) (B C : List Bool) (h : C.length ≤ 8 - B.length % 8) :
    ((wrCells c B B.length).set (1 + B.length % 512 / 8) (.int .u8 (oct (B ++ C) (B.length / 8)))).set 65 (.int .i64 ((B ++ C).length : Nat)) =
      Value.pointer c :: (octCells (B ++ C) (B.length / 512) ++ [.int .i64 ((B ++ C).length : Nat)]) := by
  apply List.ext_getElem?
  intro i
  rw [List.getElem?_set, List.getElem?_set]
  rw [List.length_set, wrCells_length]
  by_cases h65 : 65 = i
  · subst h65
    rw [if_pos rfl, if_pos (by omega), show 65 = 64 + 1 from rfl, List.getElem?_cons_succ, List.getElem?_append_right (by rw [octCells_length]; omega), octCells_length]
    rfl
  · rw [if_neg h65]
    rcases Nat.lt_or_ge i 66 with hi | hi
    · cases i with
      | zero => rw [if_neg (by omega)]; rfl
      | succ i =>
        rw [List.getElem?_cons_succ, List.getElem?_append_left (by rw [octCells_length]; omega), octCells_get _ _ _ (by omega)]
        by_cases hr : 1 + B.length % 512 / 8 = i + 1
        · rw [if_pos hr, if_pos (by omega)]
          congr 4
          omega
        · rw [if_neg hr, Nat.add_comm i 1, wrCells_oct _ _ _ _ (by omega), oct_append_other _ _ _ h (by omega)]
    · rw [if_neg (by omega), List.getElem?_eq_none (by rw [wrCells_length]; omega), List.getElem?_eq_none (by simp [octCells_length]; omega)]

theorem cell_of_list {w : World} {b j : Nat} {l : List Value} {t : TypeId} {fr : Nat × Nat} {v : Value} (hb : w.heap[b]? = some (.cells l.toArray t fr)) (hv : l[j]? = some v) : w.cell? ⟨b, j, none⟩ = some v := by
  rw [cell_of_row w b j _ _ _ hb, List.getElem?_toArray, hv]
theorem octCells_zero (B : List Bool) (q : Nat) (h : B.length ≤ 512 * q) : octCells B q = zeros64.toList := by
  have hz : zeros64.toList = List.replicate 64 (Value.int .u8 0) := by unfold zeros64; exact Array.toList_replicate
  rw [hz]
  unfold octCells
  apply List.ext_getElem?
  intro i
  rcases Nat.lt_or_ge i 64 with hi | hi
  · rw [List.getElem?_replicate, if_pos hi]; simp [hi, oct_past B (64 * q + i) (by omega)]
  · simp [hi]
theorem add_abs (w : World) (b : Nat) (B C : List Bool) (x : Nat) (h : WrAt w b B) (hC : C.length ≤ 8 - B.length % 8) (hx : x = oct (List.replicate (B.length % 8) false ++ C) 0) (hn : B.length ≤ 1000000000000) :
    Calls Try.prog 56 #[.pointer (some ⟨b, 0, none⟩), .int .u8 x, .int .i64 C.length] w fun e w' =>
      e = .returned (.tuple #[]) ∧ WrAt w' b (B ++ C) ∧ Only b w w' := by
  by_cases hc : C = []
  · subst hc
    refine (add_zero b x w).mono ?_
    rintro e w' ⟨he, rfl⟩
    exact ⟨he, by simpa using h, Only.refl _ _⟩
  have hc1 : 1 ≤ C.length := by cases C <;> simp_all
  have hlt := h.lt
  obtain ⟨c, hb, hch⟩ := h
  unfold wrObj at hb
  have hx8 : x < 256 := by rw [hx]; exact oct_lt _ _
  have hlen : (B ++ C).length = B.length + C.length := by simp
  have e1 : 64 * (B.length / 512) + B.length % 512 / 8 = B.length / 8 := by omega
  have f65 : w.cell? ⟨b, 65, none⟩ = some (.int .i64 B.length) := by
    rw [cell_of_row w b 65 _ _ _ hb, List.getElem?_toArray, wrCells_len]
  have f0 : w.cell? ⟨b, 1 + B.length % 512 / 8, none⟩ = some (.int .u8 (oct B (B.length / 8) : Nat)) := by
    rw [cell_of_row w b _ _ _ _ hb, List.getElem?_toArray, wrCells_oct _ _ _ _ (by omega), e1]
  have fr : ∀ j, w.frozen? ⟨b, j, none⟩ = false := fun j => frozen_of_row w b j _ _ hb
  have hor : bits BinOp.or IntKind.u8 (oct B (B.length / 8) : Int) (x : Int) = (oct (B ++ C) (B.length / 8) : Nat) := by
    rw [or8 x (oct B (B.length / 8)) hx8 (oct_lt _ _), oct_append_at B C hC, hx]
  -- the world behind the two stores
  have hW : ∀ W2, W2 = ((w.setCell ⟨b, 1 + B.length % 512 / 8, none⟩ (.int .u8 (bits BinOp.or IntKind.u8 (oct B (B.length / 8) : Int) (x : Int)))).setCell ⟨b, 65, none⟩ (.int .i64 ((B.length : Int) + C.length))).drew →
      W2.heap[b]? = some (.cells (Value.pointer c :: (octCells (B ++ C) (B.length / 512) ++ [.int .i64 ((B ++ C).length : Nat)])).toArray 56 (0, 0)) ∧ Only b w W2 ∧ W2.heap.size = w.heap.size := by
    intro W2 e
    subst e
    have g1 := heap_setCell_same w b (1 + B.length % 512 / 8) _ _ (.int .u8 (bits BinOp.or IntKind.u8 (oct B (B.length / 8) : Int) (x : Int))) hb
    have g2 := heap_setCell_same _ b 65 _ _ (.int .i64 ((B.length : Int) + C.length)) g1
    refine ⟨?_, ⟨rfl, rfl, rfl, by simp, fun k hk hkb => ?_⟩, by simp⟩
    · rw [heap_drew, g2, List.setIfInBounds_toArray, List.setIfInBounds_toArray, hor]
      rw [← wrCells_set c B C hC, hlen]
      rfl
    · rw [heap_drew, heap_setCell_other _ _ _ _ hkb, heap_setCell_other _ _ _ _ hkb]
  by_cases hm : (B.length + C.length) % 512 = 0
  · obtain ⟨g1, g2, g3⟩ := hW _ rfl
    have hq : (B ++ C).length / 512 = B.length / 512 + 1 := by rw [hlen]; omega
    refine (add_full b B.length C.length x (oct B (B.length / 8)) w _ c (octCells (B ++ C) (B.length / 512)) hc1 (by omega) hn f65 (fr _) f0 (fr _) hm hx8 (oct_lt _ _) (octCells_length _ _) rfl
      (cell_of_list g1 rfl) (frozen_of_row _ b _ _ _ g1) (by omega) (fun j v hv => cell_of_list g1 ?_) (fun j hj => ⟨?_, frozen_of_row _ b _ _ _ g1⟩)).mono ?_
    · have hj : j < 64 := by have := (List.getElem?_eq_some_iff.1 hv).1; rwa [octCells_length] at this
      rw [Nat.add_comm 1 j, List.getElem?_cons_succ, List.getElem?_append_left (by rw [octCells_length]; exact hj), hv]
    · rw [cell_of_list (v := .int .u8 (oct (B ++ C) (64 * (B.length / 512) + j))) g1 (by rw [Nat.add_comm 1 j, List.getElem?_cons_succ, List.getElem?_append_left (by rw [octCells_length]; exact hj), octCells_get _ _ _ hj])]
      rfl
    rintro e w' ⟨he, hw⟩
    refine ⟨he, ?_⟩
    clear he e
    revert hw g1 g2 g3
    generalize ((w.setCell ⟨b, 1 + B.length % 512 / 8, none⟩ (.int .u8 (bits BinOp.or IntKind.u8 (oct B (B.length / 8) : Int) (x : Int)))).setCell ⟨b, 65, none⟩ (.int .i64 ((B.length : Int) + C.length))).drew = W2
    intro g1 g2 g3 hw
    clear hW
    have k1 : w' = ((((W2.setCell ⟨b, 0, none⟩ (.pointer (some ⟨W2.heap.size, 0, none⟩))).alloc (chObj c (B ++ C) (B.length / 512))).drew).setCells b 1 zeros64.toList) := by
      rw [hw]
      unfold chObj
      rw [show #[Value.pointer c] ++ (octCells (B ++ C) (B.length / 512)).toArray = (Value.pointer c :: octCells (B ++ C) (B.length / 512)).toArray by simp]
    clear hw
    subst k1
    have s1 := heap_setCell_same W2 b 0 _ _ (.pointer (some ⟨W2.heap.size, 0, none⟩)) g1
    have s2 : ((W2.setCell ⟨b, 0, none⟩ (.pointer (some ⟨W2.heap.size, 0, none⟩))).alloc (chObj c (B ++ C) (B.length / 512))).drew.heap[b]? = _ :=
      (Below.heap_alloc (W2.setCell ⟨b, 0, none⟩ (.pointer (some ⟨W2.heap.size, 0, none⟩))) (chObj c (B ++ C) (B.length / 512)) b (by rw [World.size_setCell]; omega)).trans s1
    rw [List.setIfInBounds_toArray, List.set_cons_zero] at s2
    have s3 := heap_setCells_same b _ zeros64.toList 1 _ _ s2 (by simp [zeros64, octCells_length])
    obtain ⟨t1, t2, t3, t4⟩ := os_setCells b zeros64.toList 1 ((W2.setCell ⟨b, 0, none⟩ (.pointer (some ⟨W2.heap.size, 0, none⟩))).alloc (chObj c (B ++ C) (B.length / 512))).drew
    have hO : Only b W2 ((((W2.setCell ⟨b, 0, none⟩ (.pointer (some ⟨W2.heap.size, 0, none⟩))).alloc (chObj c (B ++ C) (B.length / 512))).drew).setCells b 1 zeros64.toList) := by
      refine ⟨t1, t2, t3, ?_, fun k hk hkb => ?_⟩
      · rw [t4]; simp
      · rw [heap_setCells_other b k hkb, heap_drew, Below.heap_alloc _ _ _ (by simpa using hk), heap_setCell_other _ _ _ _ hkb]
    refine ⟨⟨some ⟨W2.heap.size, 0, none⟩, ?_, ?_⟩, g2.trans hO⟩
    · rw [s3]
      unfold wrObj wrCells
      rw [hq, octCells_zero (B ++ C) (B.length / 512 + 1) (by rw [hlen]; omega)]
      congr 3
    · rw [hq]
      refine ⟨W2.heap.size, c, rfl, ?_, ?_⟩
      · rw [heap_setCells_other b _ (by omega), heap_drew]
        have := heap_alloc_new (W2.setCell ⟨b, 0, none⟩ (.pointer (some ⟨W2.heap.size, 0, none⟩))) (chObj c (B ++ C) (B.length / 512))
        rwa [World.size_setCell] at this
      · refine hch.keep (fun k c' q' hk => ?_) (fun j hj => oct_append_before _ _ _ (by omega))
        have hkb : k ≠ b := by
          intro e; subst e
          rw [hb] at hk
          injection hk with hk
          exact wr_ne_ch c c' B B q' hk
        exact (hO.block k (by rw [g3]; exact (Array.getElem?_eq_some_iff.1 hk).1) hkb).trans (g2.block k (Array.getElem?_eq_some_iff.1 hk).1 hkb)
  · obtain ⟨g1, g2, g3⟩ := hW _ rfl
    refine (add_plain b B.length C.length x (oct B (B.length / 8)) w hc1 (by omega) hn f65 (fr _) f0 (fr _) hm hx8 (oct_lt _ _)).mono ?_
    rintro e w' ⟨he, hw⟩
    subst hw
    have hq : (B ++ C).length / 512 = B.length / 512 := by rw [hlen]; omega
    refine ⟨he, ⟨c, ?_, ?_⟩, g2⟩
    · rw [g1]; unfold wrObj wrCells; rw [hq]
    · rw [hq]
      refine hch.keep (fun k c' q' hk => g2.block k (Array.getElem?_eq_some_iff.1 hk).1 ?_) (fun j hj => oct_append_before _ _ _ (by omega))
      intro e; subst e
      rw [hb] at hk
      injection hk with hk
      exact wr_ne_ch c c' B B q' hk
end Go.Proofs.Ytbbbgoigacledaa
