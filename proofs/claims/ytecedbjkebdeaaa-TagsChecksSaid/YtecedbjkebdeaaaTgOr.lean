/-
  Package tags: 'Order'.
-/
import Derived.Test.YtecedbjkebdeaaaTgSt
import Derived.Test.YtecedbjkebdeaaaTgFw
namespace Go.Proofs.Ytecedbjkebdeaaa
open Go.RowKit Go.Maps Go.WideElems Go.ChangeMaps Go.MapKept Go.Shelf Go.Sort Go.Lib
set_option linter.unusedVariables false
set_option linter.unusedSimpArgs false
set_option maxRecDepth 100000

/-- the numbers below k + 1, as numbers and as values -/
def encF {k : Nat} (i : Fin (k + 1)) : Value := .int .i64 ((i.val : Nat) : Int)
theorem encF_one (k : Nat) : OneCell (encF (k := k)) := fun _ => rfl
def idF (k : Nat) : Array (Fin (k + 1)) := Array.ofFn fun i => i
theorem idF_size (k : Nat) : (idF k).size = k + 1 := by unfold idF; simp
def cfK (k : Nat) (key : Nat → Int) (a b : Fin (k + 1)) : Int := Lib.compareInt (key a.val) (key b.val)
/-- the order of the places by their keys -/
def sortK (k : Nat) (key : Nat → Int) : List Int := (Sort.insertionSort (ltOf (cfK k key)) (idF k) 0 (k + 1)).toList.map fun i => ((i.val : Nat) : Int)
theorem ltOf_swo (k : Nat) (key : Nat → Int) : SWO (ltOf (cfK k key)) := by
  have h : ∀ a b : Fin (k + 1), ltOf (cfK k key) a b = decide (key a.val < key b.val) := fun a b => by
    unfold ltOf cfK compareInt
    repeat' split
    all_goals simp
    all_goals omega
  refine ⟨fun x => ?_, fun x y z h1 h2 => ?_, fun x y z h1 h2 => ?_⟩
  · rw [h]; simp
  · rw [h] at *; simp at *; omega
  · rw [h] at *; simp at *; omega
theorem sort_size (k : Nat) (key : Nat → Int) : (Sort.insertionSort (ltOf (cfK k key)) (idF k) 0 (k + 1)).size = k + 1 := by
  have h := (insertionSort_holds (ltOf_swo k key) (idF k) 0 (k + 1) (Nat.zero_le _) (by rw [idF_size]; exact Nat.le_refl _)).1.1
  rw [h, idF_size]
theorem grownBy_put {α : Type} [Inhabited α] (enc : α → Value) (w : World) (g n : Nat) (d : Array α) : w.grownBy ((putRow enc w g 0 d).drewN n) (some g) := by
  refine ⟨rfl, rfl, rfl, by simp, fun k hk hne => ?_⟩
  have : g ≠ k := fun e => hne (by rw [e])
  simp [putRow, mapBlock, Array.getElem?_modify, this]
theorem ownsRow_put {α : Type} [Inhabited α] (enc : α → Value) {w : World} {B g cap n m : Nat} {e : TypeId} {xs : List Value} {d : Array α} (h : w.ownsRow B e 1 (.slice (some ⟨g, 0, none⟩) n cap) n xs) (hd : d.size = n) :
    ((putRow enc w g 0 d).drewN m).ownsRow B e 1 (.slice (some ⟨g, 0, none⟩) n cap) n (d.toList.map enc) := by
  refine ⟨by simp [hd], ?_⟩
  rcases h.2 with hn | ⟨g', cap', cur, hv, hbg, hg, h1, h2, h3, h4⟩
  · cases hn.1
  · cases hv
    refine .inr ⟨g, cap, putCells enc 0 d cur, rfl, hbg, by simp [putRow, mapBlock, Array.getElem?_modify, hg, onCells], h1, h2, by simp [putCells, h3], ?_⟩
    apply List.ext_getElem?
    intro j
    by_cases hj : j < n
    · have hjc : j < cur.size := by omega
      have hjd : j < d.size := by omega
      rw [List.getElem?_take_of_lt (by omega), Array.getElem?_toList]
      simp [putCells, hj, hd, hjc, hjd]
    · rw [List.getElem?_take_eq_none (by omega), List.getElem?_eq_none (by simp; omega)]
theorem holds_own {α : Type} [Inhabited α] (enc : α → Value) {w : World} {B g cap n : Nat} {e : TypeId} {d : Array α} (h : w.ownsRow B e 1 (.slice (some ⟨g, 0, none⟩) n cap) n (d.toList.map enc)) (hd : d.size = n) : Holds enc w g 0 d := by
  intro j hj
  rcases h.2 with hn | ⟨g', cap', cur, hv, hbg, hg, h1, h2, h3, h4⟩
  · cases hn.1
  · cases hv
    refine ⟨?_, by simp [World.frozen?, hg]⟩
    have h5 : (cur.toList.take (n * 1))[j]? = (d.toList.map enc)[j]? := by rw [h4]
    rw [List.getElem?_take_of_lt (by omega)] at h5
    simp only [World.cell?, hg, Nat.zero_add]
    simp only [Option.isSome_none, Bool.false_eq_true, if_false]
    rw [← Array.getElem?_toList, h5]
    simp [hj]
theorem idF_enc (k : Nat) : (idF k).toList.map encF = (List.range (k + 1)).map fun i => Value.int .i64 ((i : Nat) : Int) := by
  unfold idF encF
  apply List.ext_getElem?
  intro j
  by_cases hj : j < k + 1
  · rw [List.getElem?_map, Array.getElem?_toList, Array.getElem?_ofFn, dif_pos hj, List.getElem?_map, List.getElem?_range hj]
    rfl
  · simp [hj]
theorem sortRow_ok (k : Nat) (key : Nat → Int) (w : World) (B lb lg cl g cap : Nat) (hk : k + 1 < 20)
    (hrow : w.ownsRow B 3 1 (.slice (some ⟨g, 0, none⟩) (k + 1) cap) (k + 1) ((List.range (k + 1)).map fun i => .int .i64 ((i : Nat) : Int)))
    (hb : lb ≠ g) (hg : lg ≠ g) (h0 : w.cell? ⟨lb, 0, none⟩ = some (.slice (some ⟨lg, 0, none⟩) (k + 1) cl)) (h1 : ∀ i, i < k + 1 → w.cell? ⟨lg, i, none⟩ = some (.int .i64 (key i))) :
    Calls Try.prog 22 #[.slice (some ⟨g, 0, none⟩) (k + 1) cap, .func (.func 23) #[] #[.pointer (some ⟨lb, 0, none⟩)]] w fun e w' =>
      e = .returned (.tuple #[]) ∧ w'.ownsRow B 3 1 (.slice (some ⟨g, 0, none⟩) (k + 1) cap) (k + 1) ((sortK k key).map (Value.int .i64)) ∧ Below B w w' := by
  have hlt := (hrow.form (by omega))
  obtain ⟨g', cap', hv, hbg, hlt⟩ := hlt
  cases hv
  rw [← idF_enc] at hrow
  have hH := holds_own encF hrow (idF_size k)
  have hcmp : CmpReads Try.prog 23 #[.pointer (some ⟨lb, 0, none⟩)] encF (cfK k key) g 0 (idF k).size w := by
    intro m os dk hs x y
    have hlb : lb < w.heap.size := by
      obtain ⟨c, e, fr, h2, _⟩ := cells_of_cell? h0
      exact (Array.getElem?_eq_some_iff.1 h2).1
    have hlg : lg < w.heap.size := by
      obtain ⟨c, e, fr, h2, _⟩ := cells_of_cell? (h1 0 (by omega))
      exact (Array.getElem?_eq_some_iff.1 h2).1
    have hcell : ∀ b o, b < w.heap.size → b ≠ g → (sortWorld encF w g 0 m dk os).cell? ⟨b, o, none⟩ = w.cell? ⟨b, o, none⟩ := fun b o hb hne => by
      unfold sortWorld
      rw [cell?_grow _ _ _ (by simpa using hb), cell?_putRow_other _ _ _ _ _ _ (.inl hne)]
      rfl
    exact less_ok _ lb lg (k + 1) cl key x.val y.val x.isLt y.isLt (by rw [hcell lb 0 hlb hb]; exact h0) (fun i hi => by rw [hcell lg i hlg hg]; exact h1 i hi)
  have h := sortStable_ok encF (encF_one k) (cfK k key) #[.pointer (some ⟨lb, 0, none⟩)] g 0 cap (idF k) w hcmp hH (by rw [idF_size]; exact hk)
  rw [idF_size] at h
  refine h.mono ?_
  rintro e w' ⟨rfl, n, rfl⟩
  refine ⟨rfl, ?_, (Below.refl B w).grown (grownBy_put encF w g n _) (by omega) (fun j hj => by cases hj; exact hbg)⟩
  have h2 := ownsRow_put encF (m := n) hrow (sort_size k key)
  have h3 : (sortK k key).map (Value.int .i64) = (Sort.insertionSort (ltOf (cfK k key)) (idF k) 0 (k + 1)).toList.map encF := by
    unfold sortK encF
    rw [List.map_map]
    rfl
  rw [h3]
  exact h2
end Go.Proofs.Ytecedbjkebdeaaa
