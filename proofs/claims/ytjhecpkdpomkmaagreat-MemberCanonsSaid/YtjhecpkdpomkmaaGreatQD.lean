/-
  A bundle of texts, one behind the other: SpH, SpO, SpN, SpJ, SpJ2, SpZ.
-/
import Derived.Test.YtjhecpkdpomkmaaGreatQA
import Derived.Test.YtjhecpkdpomkmaaGreatShelf
import Derived.Shelf.SlSortCmp.NoneTotal
namespace Go.Proofs.YtjhecpkdpomkmaaGreat
open Go.RowKit Go.Shelf
set_option linter.unusedVariables false
set_option linter.unusedSimpArgs false
set_option maxRecDepth 100000

/-- a range's two cells -/
def encR (x : Rg) : List Value := [.int .i64 x.1, .int .i64 x.2]
def inB (n : Int) (x : Rg) : Bool := decide (x.1 ≤ n) && decide (n ≤ x.2)
theorem hasPred (n : Int) (B : Nat) (w : World) (hB : B < w.heap.size) (hcell : w.cell? ⟨B, 0, none⟩ = some (.int .i64 n)) :
    PredBelow Tryz.prog 216 #[.pointer (some ⟨B, 0, none⟩)] (fun x => .agg (encR x).toArray) (inB n) w := fun W x hb => by
  obtain ⟨x1, x2⟩ := x
  have hc : W.cell? ⟨B, 0, none⟩ = some (.int .i64 n) := (hb.cell (p := ⟨B, 0, none⟩) hB).trans hcell
  have hBW : B < W.heap.size := Nat.lt_of_lt_of_le hB hb.size
  have c0 : (W.alloc (.cells #[.int .i64 x1, .int .i64 x2] 66)).cell? ⟨B, 0, none⟩ = some (.int .i64 n) := Lib.cell?_alloc_some _ hc
  have c1 : (W.alloc (.cells #[.int .i64 x1, .int .i64 x2] 66)).cell? ⟨W.heap.size, 0, none⟩ = some (.int .i64 x1) := by simp
  have c2 : (W.alloc (.cells #[.int .i64 x1, .int .i64 x2] 66)).cell? ⟨W.heap.size, 1, none⟩ = some (.int .i64 x2) := by simp
  have HB := Lib.hid (hb.alloc hb.size (.cells #[.int .i64 x1, .int .i64 x2] 66))
  obtain ⟨W2, hW2⟩ : ∃ W2, W.alloc (.cells #[.int .i64 x1, .int .i64 x2] 66) = W2 := ⟨_, rfl⟩
  rw [hW2] at c0 c1 c2 HB
  have HW := Lib.hid hW2
  show Calls Tryz.prog 216 #[.agg #[.int .i64 x1, .int .i64 x2], .pointer (some ⟨B, 0, none⟩)] W fun e w' => e = .returned (.bool (decide (x1 ≤ n) && decide (n ≤ x2))) ∧ Below w.heap.size w w'
  clear hc hb hcell hW2
  by_cases h1 : x1 ≤ n
  · have q1 : decide (x1 ≤ n) = true := decide_eq_true h1
    by_cases h2 : n ≤ x2
    · have q2 : decide (n ≤ x2) = true := decide_eq_true h2
      rw [q1, q2]
      go_enter Tryz.func216, Tryz.ntmps216
      go_upto_region 1 with fail
      change Code.wp _ _ _ _ (W.alloc _)
      rw [HW.out]
      go_wp2_with fail
      go_ret
      exact ⟨rfl, HB.out⟩
    · have q2 : decide (n ≤ x2) = false := decide_eq_false h2
      rw [q1, q2]
      go_enter Tryz.func216, Tryz.ntmps216
      go_upto_region 1 with fail
      change Code.wp _ _ _ _ (W.alloc _)
      rw [HW.out]
      go_wp2_with fail
      go_ret
      exact ⟨rfl, HB.out⟩
  · have q1 : decide (x1 ≤ n) = false := decide_eq_false h1
    rw [q1, Bool.false_and]
    go_enter Tryz.func216, Tryz.ntmps216
    go_upto_region 1 with fail
    change Code.wp _ _ _ _ (W.alloc _)
    rw [HW.out]
    go_wp2_with fail
    go_ret
    exact ⟨rfl, HB.out⟩
theorem hasB_inB (l : List Rg) (n : Int) : l.any (inB n) = hasB l n := rfl
theorem RSl.cells {w : World} {g o : Nat} {l : List Rg} (hd : ∀ i, i < l.length → w.cell? ⟨g, o + i * 2, none⟩ = some (.int .i64 l[i]!.1) ∧ w.cell? ⟨g, o + i * 2 + 1, none⟩ = some (.int .i64 l[i]!.2)) :
    ∀ j, j < l.length → ∀ i v, (encR l[j]!)[i]? = some v → w.cell? ⟨g, o + j * 2 + i, none⟩ = some v := by
  intro j hj i v hi
  obtain ⟨h1, h2⟩ := hd j hj
  match i, hi with
  | 0, hi => obtain rfl : Value.int .i64 l[j]!.1 = v := Option.some.inj hi; exact h1
  | 1, hi => obtain rfl : Value.int .i64 l[j]!.2 = v := Option.some.inj hi; exact h2
  | i + 2, hi => simp [encR] at hi
set_option maxHeartbeats 2000000 in
theorem has_lib (w : World) (v : Value) (l : List Rg) (n : Int) (B : Nat) (h : RSl w v l) (hl : l.length ≤ 9223372036854775807) (hB : B < w.heap.size) (hcell : w.cell? ⟨B, 0, none⟩ = some (.int .i64 n)) :
    Calls Tryz.prog 215 #[v, .func (.func 216) #[] #[.pointer (some ⟨B, 0, none⟩)]] w fun e w' => e = .returned (.bool (hasB l n)) ∧ Below w.heap.size w w' := by
  have eg : ∀ args w, (callFunc 216 args).run Tryz.prog w = .ok (.enter 216 args) w := enters_of Tryz.func216 (by kernel_rfl) rfl
  rcases Nat.eq_zero_or_pos l.length with h0 | h0
  · obtain ⟨a, cap, rfl⟩ := h.shape
    obtain rfl : l = [] := List.length_eq_zero_iff.1 h0
    have e1 : hasB ([] : List Rg) n = false := rfl
    rw [e1]
    have c2 : ∀ W, W = w → Calls Tryz.prog 246 #[.slice a 0 cap, .func (.func 216) #[] #[.pointer (some ⟨B, 0, none⟩)]] W fun e w' => e = .returned (.int .i64 (-1)) ∧ w' = W := by
      rintro W rfl
      clear h hcell eg
      go_enter Tryz.func246, Tryz.ntmps246
      go_wp2_with fail
      go_loopw [8] (fun i wr => i = .int .i64 0 ∧ wr = W) (fun _ _ => 0)
      case atStart => exact ⟨rfl, rfl⟩
      case round =>
        obtain ⟨rfl, rfl⟩ := hrel
        go_wp2_with fail
        go_ret
        exact ⟨rfl, rfl⟩
    have HC := Lib.hid (c2 w rfl)
    clear h hcell eg c2
    show Calls _ _ #[.slice a 0 cap, _] w _
    go_enter Tryz.func215, Tryz.ntmps215
    go_wp2_with fail
    refine HC.out.mono ?_
    rintro e w' ⟨rfl, rfl⟩
    go_wp2_with fail
    go_ret
    exact ⟨rfl, Below.refl _ _⟩
  · obtain ⟨g, o, cap, rfl, hc, hg, hd⟩ := h.at h0
    have hcon := AnyQ.slices_ContainsFunc Tryz.hasRg 2 Tryz.isAgg66 Tryz.sizeOf66 encR (fun _ => rfl) (inB n) 216 #[.pointer (some ⟨B, 0, none⟩)] eg g o l.length cap l w (hasPred n B w hB hcell) (Nat.le_refl _) hl hg (RSl.cells hd)
    rw [List.take_length, hasB_inB] at hcon
    exact hcon
set_option maxHeartbeats 1000000 in
theorem Has_ok (w : World) (v : Value) (l : List Rg) (n : Int) (h : RSl w v l) (hl : l.length ≤ 9223372036854775807) :
    Calls Tryz.prog 164 #[v, .int .i64 n] w fun e w' => e = .returned (.bool (hasB l n)) ∧ Below w.heap.size w w' := by
  have hb := (Below.refl w.heap.size w).alloc (Nat.le_refl _) (.cells #[.int .i64 n] 3)
  have HC := Lib.hid (has_lib (w.alloc (.cells #[.int .i64 n] 3)) v l n w.heap.size (h.below hb) hl (by simp) (by simp))
  have HB := Lib.hid hb
  generalize hasB l n = b at *
  clear h hl hb
  go_enter Tryz.func164, Tryz.ntmps164
  go_wp2_with fail
  refine HC.out.mono ?_
  rintro e w' ⟨rfl, hb'⟩
  have HB2 := Lib.hid (HB.out.trans (hb'.mono HB.out.size))
  clear hb'
  go_wp2_with fail
  go_ret
  exact ⟨rfl, HB2.out⟩

/-! ### the sort -/
theorem compareLo (x y : Int × Int) : ltOf (fun x y : Int × Int => Lib.compareInt x.1 y.1) x y = decide (x.1 < y.1) := by
  unfold ltOf Lib.compareInt
  by_cases h1 : x.1 < y.1
  · simp [h1]
  · by_cases h2 : y.1 < x.1 <;> simp [h1, h2]
theorem swoLo : Sort.SWO (ltOf fun x y : Int × Int => Lib.compareInt x.1 y.1) where
  irrefl x := by rw [compareLo]; simp
  trans x y z h1 h2 := by rw [compareLo] at *; simp at *; omega
  ntrans x y z h1 h2 := by rw [compareLo] at *; simp at *; omega
set_option maxHeartbeats 1000000 in
theorem cmp_ok (x1 x2 y1 y2 : Int) (w : World) : Calls Tryz.prog 269 #[.agg #[.int .i64 x1, .int .i64 x2], .agg #[.int .i64 y1, .int .i64 y2]] w fun e w' => e = .returned (.int .i64 (Lib.compareInt x1 y1)) ∧ ∃ q os', w' = Sort.grow (w.drewN q) os' := by
  obtain ⟨W, hW, c1, c2, c3, c4, hB⟩ := two_boxed x1 x2 y1 y2 w
  have hcon := AnyG.cmp_Compare_int Tryz.cmpInt x1 y1 W
  change Calls Tryz.prog 270 _ _ _ at hcon
  have HW := Lib.hid hW
  have HC := Lib.hid hcon
  have HG := Lib.hid (show ∃ q os', W = Sort.grow (w.drewN q) os' from ⟨0, _, by rw [← hW, Sort.alloc_eq_grow, Sort.alloc_eq_grow, Sort.grow_grow]; rfl⟩)
  clear hcon hW hB
  generalize Lib.compareInt x1 y1 = r at HC ⊢
  go_enter Tryz.func269, Tryz.ntmps269
  go_upto_region 1 with fail
  change Code.wp _ _ _ _ ((w.alloc _).alloc _)
  rw [HW.out]
  go_wp2_with fail
  refine HC.out.mono ?_
  rintro e w' ⟨rfl, rfl⟩
  go_wp2_with fail
  go_ret
  exact ⟨rfl, HG.out⟩
end Go.Proofs.YtjhecpkdpomkmaaGreat

namespace Go.Proofs.YtjhecpkdpomkmaaGreat
open Go.RowKit Go.Shelf
set_option linter.unusedVariables false
set_option linter.unusedSimpArgs false
set_option maxRecDepth 100000

structure OnlyS (b : Nat) (w w' : World) : Prop where
  os : w'.os = w.os
  tape : w'.tape = w.tape
  output : w'.output = w.output
  size : w.heap.size ≤ w'.heap.size
  block : ∀ k, k < w.heap.size → k ≠ b → w'.heap[k]? = w.heap[k]?
theorem OnlyS.refl (b : Nat) (w : World) : OnlyS b w w := ⟨rfl, rfl, rfl, Nat.le_refl _, fun _ _ _ => rfl⟩
theorem OnlyS.trans {b : Nat} {w1 w2 w3 : World} (h : OnlyS b w1 w2) (k : OnlyS b w2 w3) : OnlyS b w1 w3 :=
  ⟨k.os.trans h.os, k.tape.trans h.tape, k.output.trans h.output, Nat.le_trans h.size k.size, fun i hi hb => (k.block i (Nat.lt_of_lt_of_le hi h.size) hb).trans (h.block i hi hb)⟩
theorem OnlyS.of_below {b : Nat} {w w' : World} (h : Below w.heap.size w w') : OnlyS b w w' := ⟨h.os, h.tape, h.output, h.size, fun k hk _ => h.block k hk⟩
theorem OnlyS.below {b B : Nat} {w w' : World} (h : OnlyS b w w') (hB : B ≤ b) (hs : B ≤ w.heap.size) : Below B w w' :=
  ⟨h.os, h.tape, h.output, h.size, fun k hk => h.block k (by omega) (by omega)⟩
theorem OnlyS.setCell {b : Nat} {w : World} (o : Nat) (v : Value) : OnlyS b w (w.setCell ⟨b, o, none⟩ v) :=
  ⟨rfl, rfl, rfl, by simp [World.setCell], fun k hk hkb => Below.heap_setCell w ⟨b, o, none⟩ v k hkb⟩

/-! ### cells -/
def rcells (l : List Rg) : List Value := l.flatMap encR
theorem rcells_cons (r : Rg) (l : List Rg) : rcells (r :: l) = .int .i64 r.1 :: .int .i64 r.2 :: rcells l := rfl
theorem rcells_append (a b : List Rg) : rcells (a ++ b) = rcells a ++ rcells b := by simp [rcells]
theorem rcells_one (r : Rg) : rcells [r] = [.int .i64 r.1, .int .i64 r.2] := rfl
theorem rcells_length : ∀ (l : List Rg), (rcells l).length = l.length * 2
  | [] => rfl
  | r :: l => by rw [rcells_cons, List.length_cons, List.length_cons, rcells_length l, List.length_cons]; omega
theorem rcells_get : ∀ (l : List Rg) (i : Nat), i < l.length → (rcells l)[i * 2]? = some (.int .i64 l[i]!.1) ∧ (rcells l)[i * 2 + 1]? = some (.int .i64 l[i]!.2)
  | [], _, h => absurd h (Nat.not_lt_zero _)
  | r :: l, 0, _ => ⟨rfl, rfl⟩
  | r :: l, i + 1, h => by
    have ih := rcells_get l i (by simpa using h)
    rw [rcells_cons, show (i + 1) * 2 = i * 2 + 1 + 1 by omega, List.getElem?_cons_succ, List.getElem?_cons_succ, List.getElem?_cons_succ, List.getElem?_cons_succ]
    rw [show (r :: l)[i + 1]! = l[i]! by simp]
    exact ih
theorem rcells_oneCell (l : List Rg) : ∀ u ∈ rcells l, u.oneCell' = true := by
  intro u hu
  unfold rcells at hu
  rw [List.mem_flatMap] at hu
  obtain ⟨r, _, hu⟩ := hu
  simp [encR] at hu
  rcases hu with rfl | rfl <;> rfl
theorem rcells_set : ∀ (l : List Rg) (k : Nat) (r : Rg) (rest : List Value), k < l.length → (rcells l ++ rest).take (k * 2) ++ [.int .i64 r.1, .int .i64 r.2] ++ (rcells l ++ rest).drop (k * 2 + 2) = rcells (l.set k r) ++ rest
  | [], _, _, _, h => absurd h (Nat.not_lt_zero _)
  | x :: l, 0, r, rest, _ => by simp [rcells_cons]
  | x :: l, k + 1, r, rest, h => by
    have ih := rcells_set l k r rest (by simpa using h)
    rw [rcells_cons, List.set_cons_succ, rcells_cons, show (k + 1) * 2 = k * 2 + 1 + 1 by omega]
    simp only [List.cons_append, List.take_succ_cons, List.drop_succ_cons]
    rw [← ih]
theorem rcells_set_hi : ∀ (l : List Rg) (k : Nat) (h : Int) (rest : List Value), k < l.length → (rcells l ++ rest).set (k * 2 + 1) (.int .i64 h) = rcells (l.set k (l[k]!.1, h)) ++ rest
  | [], _, _, _, hk => absurd hk (Nat.not_lt_zero _)
  | x :: l, 0, h, rest, _ => by simp [rcells_cons]
  | x :: l, k + 1, h, rest, hk => by
    have ih := rcells_set_hi l k h rest (by simpa using hk)
    rw [rcells_cons, List.set_cons_succ, rcells_cons, show (k + 1) * 2 + 1 = k * 2 + 1 + 1 + 1 by omega]
    simp only [List.cons_append, List.set_cons_succ]
    rw [ih]
    simp

/-! ### a row of one's own -/
def OwnR (base : Nat) (w : World) (v : Value) (l : List Rg) : Prop := w.ownsRow base 66 2 v l.length (rcells l)
theorem OwnR.nil (base : Nat) (w : World) : OwnR base w (.slice none 0 0) [] := World.ownsRow_nil _ _ _ _
theorem OwnR.keep {base : Nat} {w w' : World} {v : Value} {l : List Rg} (h : OwnR base w v l) (hk : ∀ k, base ≤ k → k < w.heap.size → w'.heap[k]? = w.heap[k]?) : OwnR base w' v l := by
  obtain ⟨h1, h2⟩ := h
  refine ⟨h1, ?_⟩
  rcases h2 with h2 | ⟨g, cap, cur, hv, hg, hh, r⟩
  · exact .inl h2
  · exact .inr ⟨g, cap, cur, hv, hg, (hk g hg (Array.getElem?_eq_some_iff.1 hh).1).trans hh, r⟩
theorem OwnR.below {base : Nat} {w w' : World} {v : Value} {l : List Rg} (h : OwnR base w v l) (hb : Below w.heap.size w w') : OwnR base w' v l := h.keep fun k _ hk => hb.block k hk
theorem OwnR.base {base b2 : Nat} {w : World} {v : Value} {l : List Rg} (h : OwnR base w v l) (hb : b2 ≤ base) : OwnR b2 w v l := by
  obtain ⟨h1, h2⟩ := h
  refine ⟨h1, ?_⟩
  rcases h2 with h2 | ⟨g, cap, cur, hv, hg, r⟩
  · exact .inl h2
  · exact .inr ⟨g, cap, cur, hv, by omega, r⟩
theorem own_snoc {base : Nat} {w : World} {v : Value} {l : List Rg} {x y : Int} (h : w.ownsRow base 66 2 v (l.length + 1) (rcells l ++ [.int .i64 x, .int .i64 y])) : OwnR base w v (l ++ [(x, y)]) := by
  unfold OwnR
  rw [rcells_append, rcells_one, List.length_append, List.length_singleton]
  exact h
theorem OwnR.rsl {base : Nat} {w : World} {v : Value} {l : List Rg} (h : OwnR base w v l) (hb : Bd l) : RSl w v l := by
  refine ⟨hb, ?_⟩
  rcases h.2 with ⟨hv, h0⟩ | ⟨g, cap, cur, hv, hg, hh, hc, hm, hs, ht⟩
  · exact .inr ⟨List.length_eq_zero_iff.1 h0, none, 0, hv⟩
  · refine .inl ⟨g, 0, cap, hv, hc, fun i hi => ?_⟩
    have hcells := World.ownsRow.cells h (g := g) (by rw [hv]; rfl)
    obtain ⟨g1, g2⟩ := rcells_get l i hi
    have c1 := hcells _ _ g1
    have c2 := hcells _ _ g2
    rw [Addr.add_mid] at c1 c2
    rw [Nat.add_assoc]
    exact ⟨c1, c2⟩
def rgZero : Value := .agg #[.int .i64 0, .int .i64 0]
theorem info_rg : (Tryz.prog.info? 66).map (fun i => (i.zero, i.size, i.bytes)) = some (some rgZero, 2, 16) := by kernel_rfl
theorem info_parts {t : TypeId} {z : Value} {s b : Nat} (h : (Tryz.prog.info? t).map (fun i => (i.zero, i.size, i.bytes)) = some (some z, s, b)) :
    ∃ i, Tryz.prog.info? t = some i ∧ i.zero = some z ∧ i.size = s ∧ i.bytes = b := by
  cases hi : Tryz.prog.info? t with
  | none => rw [hi] at h; cases h
  | some i =>
    rw [hi] at h
    simp at h
    exact ⟨i, rfl, h.1, h.2.1, h.2.2⟩
theorem new_rg (w : World) (x y : Int) : ∀ j u, [Value.int .i64 x, .int .i64 y][j]? = some u → (w.alloc (.cells #[.int .i64 x, .int .i64 y] 66)).cell? ((⟨w.heap.size, 0, none⟩ : Addr).add j) = some u := by
  intro j u hj
  rw [Addr.add_mid, Nat.zero_add]
  match j, hj with
  | 0, hj => obtain rfl : Value.int .i64 x = u := Option.some.inj hj; simp
  | 1, hj => obtain rfl : Value.int .i64 y = u := Option.some.inj hj; simp
theorem one_rg (x y : Int) : ∀ u ∈ [Value.int .i64 x, .int .i64 y], u.oneCell' = true := rcells_oneCell [(x, y)]
theorem own_grown {base : Nat} {w w4 : World} {v : Value} {l : List Rg} {B : Nat} {W : World} (hb : Below B W w) (ho : OwnR base w v l) (hB : B ≤ base) (hBw : B ≤ w.heap.size) (o : Obj) (hg : (w.alloc o).grownBy w4 v.ownBlock) : Below B W w4 := by
  refine (hb.alloc hBw o).grown hg (by simp; omega) (fun k hk => ?_)
  have := (ho.lt k hk).1
  omega

/-! ### a row in a block -/
def Row (w : World) (g cap : Nat) (l : List Rg) : Prop := ∃ rest : List Value, w.heap[g]? = some (.cells (rcells l ++ rest).toArray 66 (0, 0)) ∧ (rcells l ++ rest).length = cap * 2
theorem Row.lt {w : World} {g cap : Nat} {l : List Rg} (h : Row w g cap l) : g < w.heap.size := by
  obtain ⟨r, h, _⟩ := h
  exact (Array.getElem?_eq_some_iff.1 h).1
theorem Row.le {w : World} {g cap : Nat} {l : List Rg} (h : Row w g cap l) : l.length ≤ cap := by
  obtain ⟨r, _, h⟩ := h
  rw [List.length_append, rcells_length] at h
  omega
theorem Row.keep {w w' : World} {g cap : Nat} {l : List Rg} (h : Row w g cap l) (hb : w'.heap[g]? = w.heap[g]?) : Row w' g cap l := by
  obtain ⟨r, h1, h2⟩ := h
  exact ⟨r, hb.trans h1, h2⟩
theorem Row.below {w w' : World} {g cap : Nat} {l : List Rg} (h : Row w g cap l) (hb : Below w.heap.size w w') : Row w' g cap l := h.keep (hb.block g h.lt)
theorem cell_row {w : World} {b j : Nat} {l : List Value} {t : TypeId} {fr : Nat × Nat} {v : Value} (hb : w.heap[b]? = some (.cells l.toArray t fr)) (hv : l[j]? = some v) : w.cell? ⟨b, j, none⟩ = some v := by
  simp [World.cell?, hb, hv]
theorem Row.cell {w : World} {g cap : Nat} {l : List Rg} (h : Row w g cap l) (i : Nat) (hi : i < l.length) : w.cell? ⟨g, i * 2, none⟩ = some (.int .i64 l[i]!.1) ∧ w.cell? ⟨g, i * 2 + 1, none⟩ = some (.int .i64 l[i]!.2) := by
  obtain ⟨r, h1, _⟩ := h
  obtain ⟨g1, g2⟩ := rcells_get l i hi
  have hlen := rcells_length l
  exact ⟨cell_row h1 (by rw [List.getElem?_append_left (by omega)]; exact g1), cell_row h1 (by rw [List.getElem?_append_left (by omega)]; exact g2)⟩
theorem Row.frozen {w : World} {g cap : Nat} {l : List Rg} (h : Row w g cap l) (j : Nat) : w.frozen? ⟨g, j, none⟩ = false := by
  obtain ⟨r, h1, _⟩ := h
  simp [World.frozen?, h1]
theorem OwnR.row {base : Nat} {w : World} {v : Value} {l : List Rg} (h : OwnR base w v l) (hl : 0 < l.length) : ∃ g cap, v = .slice (some ⟨g, 0, none⟩) l.length cap ∧ base ≤ g ∧ cap ≤ maxLen ∧ Row w g cap l := by
  rcases h.2 with ⟨_, h0⟩ | ⟨g, cap, cur, hv, hg, hh, hc, hm, hs, ht⟩
  · omega
  · refine ⟨g, cap, hv, hg, hm, cur.toList.drop (l.length * 2), ?_, ?_⟩
    · rw [← ht, List.take_append_drop]
      exact hh
    · rw [← ht, List.take_append_drop]
      simpa using hs
theorem Row.own {base : Nat} {w : World} {g cap n : Nat} {l : List Rg} (h : Row w g cap l) (hb : base ≤ g) (hm : cap ≤ maxLen) (hn : n ≤ l.length) : OwnR base w (.slice (some ⟨g, 0, none⟩) n cap) (l.take n) := by
  have hle := h.le
  obtain ⟨r, h1, h2⟩ := h
  have hln : (l.take n).length = n := by simp; omega
  refine ⟨rcells_length _, .inr ⟨g, cap, _, by rw [hln], hb, h1, by omega, hm, by simpa using h2, ?_⟩⟩
  have e : l = l.take n ++ l.drop n := (List.take_append_drop n l).symm
  have e2 : (rcells l ++ r) = rcells (l.take n) ++ (rcells (l.drop n) ++ r) := by
    conv => lhs; rw [e, rcells_append, List.append_assoc]
  show (rcells l ++ r).take _ = _
  rw [e2, ← rcells_length]
  exact List.take_left

/-! ### the sort -/
theorem flat_cells (l : List Rg) : Sort.flatK encR 2 l.toArray = (rcells l).toArray := by
  refine Sort.ext_get! (by simp [rcells_length]) fun t ht => ?_
  have ht2 : t < l.length * 2 := by simpa using ht
  rw [Sort.get_flatK _ _ _ _ (by simpa using ht2)]
  have hi : t / 2 < l.length := by omega
  obtain ⟨g1, g2⟩ := rcells_get l (t / 2) hi
  have hx : (l.toArray)[t / 2]! = l[t / 2]! := by simp
  rw [hx]
  rcases Nat.mod_two_eq_zero_or_one t with h | h
  · rw [h]
    rw [show t / 2 * 2 = t by omega] at g1
    have : (rcells l).toArray[t]! = Value.int .i64 l[t / 2]!.1 := by
      rw [Array.getElem!_eq_getD, Array.getD_eq_getD_getElem?, List.getElem?_toArray, g1]; rfl
    rw [this]; rfl
  · rw [h]
    rw [show t / 2 * 2 + 1 = t by omega] at g2
    have : (rcells l).toArray[t]! = Value.int .i64 l[t / 2]!.2 := by
      rw [Array.getElem!_eq_getD, Array.getD_eq_getD_getElem?, List.getElem?_toArray, g2]; rfl
    rw [this]; rfl
theorem Row.holds {w : World} {g cap : Nat} {l : List Rg} (h : Row w g cap l) : Sort.HoldsK encR 2 w g 0 l.toArray := by
  unfold Sort.HoldsK
  rw [flat_cells]
  intro j hj
  have hfr := h.frozen (0 + j)
  obtain ⟨r, h1, _⟩ := h
  refine ⟨?_, hfr⟩
  have hj2 : j < (rcells l).length := by simpa using hj
  rw [Nat.zero_add]
  refine cell_row h1 ?_
  rw [List.getElem?_append_left hj2, List.getElem?_eq_getElem hj2]
  simp [hj2]
theorem put_cells (a b r : List Value) (h : a.length = b.length) : Sort.putCells id 0 b.toArray (a ++ r).toArray = (b ++ r).toArray := by
  apply Array.ext_getElem?
  intro k
  unfold Sort.putCells
  rw [Array.getElem?_mapIdx, List.getElem?_toArray, List.getElem?_toArray]
  rcases Nat.lt_or_ge k a.length with hk | hk
  · rw [List.getElem?_append_left hk, List.getElem?_append_left (by omega), List.getElem?_eq_getElem hk, List.getElem?_eq_getElem (show k < b.length by omega)]
    simp [show k < b.length by omega]
  · rw [List.getElem?_append_right hk, List.getElem?_append_right (by omega), h]
    cases r[k - b.length]? with
    | none => rfl
    | some x => simp [show ¬ k < b.length by omega]
theorem Row.sorted {w : World} {g cap n : Nat} {l l' : List Rg} {os : Array Obj} (h : Row w g cap l) (hl : l'.length = l.length) : Row (sortWorldK encR 2 w g 0 n l'.toArray os) g cap l' ∧ OnlyS g w (sortWorldK encR 2 w g 0 n l'.toArray os) := by
  have hlt := h.lt
  obtain ⟨r, h1, h2⟩ := h
  have hsz : (Sort.putRowK encR 2 (Sort.ahead w n) g 0 l'.toArray).heap.size = w.heap.size := by unfold Sort.putRowK; simp
  have hold : ∀ k, k < w.heap.size → (sortWorldK encR 2 w g 0 n l'.toArray os).heap[k]? = (Sort.putRowK encR 2 (Sort.ahead w n) g 0 l'.toArray).heap[k]? := by
    intro k hk
    unfold sortWorldK Sort.grow
    exact Array.getElem?_append_left (by rw [hsz]; exact hk)
  refine ⟨⟨r, ?_, ?_⟩, ?_⟩
  · rw [hold g hlt]
    unfold Sort.putRowK Sort.putRow Sort.mapBlock
    rw [flat_cells]
    show (w.heap.modify g _)[g]? = _
    rw [Array.getElem?_modify, if_pos rfl, h1]
    simp only [Option.map_some, Sort.onCells]
    rw [put_cells _ _ _ (by rw [rcells_length, rcells_length, hl])]
  · rw [← h2, List.length_append, List.length_append, rcells_length, rcells_length, hl]
  · refine ⟨rfl, rfl, rfl, ?_, fun k hk hkg => ?_⟩
    · unfold sortWorldK Sort.grow
      rw [Array.size_append, hsz]
      omega
    · rw [hold k hk]
      unfold Sort.putRowK Sort.putRow Sort.mapBlock
      show (w.heap.modify g _)[k]? = _
      rw [Array.getElem?_modify, if_neg (fun e => hkg e.symm)]
theorem sort_ok (w : World) (g cap : Nat) (l : List Rg) (h : Row w g cap l) (hl : l.length ≤ 1000000000) :
    Calls Tryz.prog 268 #[.slice (some ⟨g, 0, none⟩) l.length cap, .func (.func 269) #[] #[]] w fun e w' =>
      e = .returned (.tuple #[]) ∧ ∃ l', l'.Perm l ∧ (∀ i j, i < j → j < l'.length → l'[i]!.1 ≤ l'[j]!.1) ∧ Row w' g cap l' ∧ OnlyS g w w' := by
  have eg : ∀ args w, (callFunc 269 args).run Tryz.prog w = .ok (.enter 269 args) w := enters_of Tryz.func269 (by kernel_rfl) rfl
  have hcon := AnyQ.slices_SortFunc Tryz.sortRg 2 Tryz.isAgg66 Tryz.sizeOf66 encR (fun _ => rfl) (fun x v hv => by simp [encR] at hv; rcases hv with rfl | rfl <;> rfl) (fun x y => Lib.compareInt x.1 y.1) swoLo 269 #[] g 0 cap l.toArray w eg (fun _ _ _ _ x y => cmp_ok x.1 x.2 y.1 y.2 _) h.holds h.lt (by simp; omega)
  refine Calls.mono (show Calls Tryz.prog 268 #[.slice (some ⟨g, 0, none⟩) l.length cap, .func (.func 269) #[] #[]] w _ from hcon) ?_
  rintro e w' ⟨rfl, d', n, os, hp, hs, rfl⟩
  have hsize : d'.toList.length = l.length := by have := hp.1; simpa using this
  have hrow := h.sorted (n := n) (os := os) (l' := d'.toList) hsize
  rw [show d'.toList.toArray = d' from rfl] at hrow
  refine ⟨rfl, d'.toList, ?_, fun i j hij hj => ?_, hrow.1, hrow.2⟩
  · have h3 := hp.2.2
    have h4 : d'.size = l.length := by simpa using hsize
    have h7 : (d'.extract 0 d'.size).toList.Perm (l.toArray.extract 0 l.length).toList := by rw [h4]; exact h3
    simpa using h7
  · have h5 := hs i j (Nat.zero_le _) hij (by rw [hsize] at hj; simpa using hj)
    rw [compareLo] at h5
    have h6 := of_decide_eq_false h5
    have hjd : j < d'.size := by simpa using hj
    simp only [List.getElem!_eq_getElem?_getD, Array.getElem?_toList] at *
    simp only [Array.getElem!_eq_getD, Array.getD_eq_getD_getElem?] at h6
    omega
theorem sort_none (w : World) (a : Option Addr) (cap : Nat) :
    Calls Tryz.prog 268 #[.slice a 0 cap, .func (.func 269) #[] #[]] w fun e w' => e = .returned (.tuple #[]) ∧ w' = w :=
  AnyF.slices_SortFunc_none Tryz.sortRg a cap _ w
end Go.Proofs.YtjhecpkdpomkmaaGreat

namespace Go.Proofs.YtjhecpkdpomkmaaGreat
open Go.RowKit Go.Shelf
set_option linter.unusedVariables false
set_option linter.unusedSimpArgs false
set_option maxRecDepth 100000

def neL (l : List Rg) : List Rg := l.filter fun r => decide (r.1 ≤ r.2)
theorem neL_append (a b : List Rg) : neL (a ++ b) = neL a ++ neL b := by simp [neL]
theorem neL_le (l : List Rg) : (neL l).length ≤ l.length := List.length_filter_le _ _
theorem take_succ_get {l : List Rg} {j : Nat} (h : j < l.length) : l.take (j + 1) = l.take j ++ [l[j]!] := by
  rw [List.take_add_one, getElem!_pos l j h, List.getElem?_eq_getElem h]
  rfl
theorem neL_take_yes {l : List Rg} {j : Nat} (h : j < l.length) (h2 : l[j]!.1 ≤ l[j]!.2) : neL (l.take (j + 1)) = neL (l.take j) ++ [l[j]!] := by
  rw [take_succ_get h, neL_append]
  generalize l[j]! = r at h2 ⊢
  simp [neL, h2]
  try omega
theorem neL_take_no {l : List Rg} {j : Nat} (h : j < l.length) (h2 : ¬ l[j]!.1 ≤ l[j]!.2) : neL (l.take (j + 1)) = neL (l.take j) := by
  rw [take_succ_get h, neL_append]
  generalize l[j]! = r at h2 ⊢
  simp [neL, h2]
  try omega
theorem neL_mem (l : List Rg) (n : Int) : mem (neL l) n ↔ mem l n := by
  unfold mem neL
  constructor
  · rintro ⟨r, hr, h⟩
    exact ⟨r, (List.mem_filter.1 hr).1, h⟩
  · rintro ⟨r, hr, h⟩
    exact ⟨r, List.mem_filter.2 ⟨hr, by simp; omega⟩, h⟩
theorem neL_ne (l : List Rg) : ∀ r ∈ neL l, r.1 ≤ r.2 := fun r hr => by simpa using (List.mem_filter.1 hr).2
theorem neL_bd {l : List Rg} (h : Bd l) : Bd (neL l) := fun r hr => h r ((List.mem_filter.1 hr).1)

/-- lists of ranges, each with its slice, in a block -/
def VAt (w : World) (a : Nat) (ls : List (List Rg)) : Prop := ∀ i, i < ls.length → ∃ s, w.cell? ⟨a, i, none⟩ = some s ∧ RSl w s ls[i]!
theorem VAt.below {w w' : World} {a : Nat} {ls : List (List Rg)} (h : VAt w a ls) (hb : Below w.heap.size w w') : VAt w' a ls := fun i hi => by
  obtain ⟨s, h1, h2⟩ := h i hi
  exact ⟨s, (World.cell?_of_block (w := w) (hb.block a (World.block_lt_of_cell? w _ h1))).trans h1, h2.below hb⟩
def tot (ls : List (List Rg)) (i : Nat) : List Rg := neL (ls.take i).flatten
theorem tot_succ {ls : List (List Rg)} {i : Nat} (h : i < ls.length) : tot ls (i + 1) = tot ls i ++ neL ls[i]! := by
  unfold tot
  rw [List.take_add_one, getElem!_pos ls i h, List.getElem?_eq_getElem h, List.flatten_append, neL_append]
  simp
theorem tot_le (ls : List (List Rg)) (i : Nat) : (tot ls i).length ≤ ls.flatten.length := by
  have h := neL_le (ls.take i).flatten
  have h2 : ((ls.take i).flatten).length ≤ ls.flatten.length := by
    conv => rhs; rw [← List.take_append_drop i ls, List.flatten_append, List.length_append]
    omega
  exact Nat.le_trans h h2
def RelOS (w : World) (ls : List (List Rg)) (lv iv : Value) (wr : World) : Prop :=
  ∃ i : Nat, i ≤ ls.length ∧ iv = .int .i64 (i : Nat) ∧ OwnR w.heap.size wr lv (tot ls i) ∧ Below w.heap.size w wr
def RelI (w : World) (D s : List Rg) (lv jv : Value) (wr : World) : Prop :=
  ∃ j : Nat, j ≤ s.length ∧ jv = .int .i64 (j : Nat) ∧ OwnR w.heap.size wr lv (D ++ neL (s.take j)) ∧ Below w.heap.size w wr
theorem RSl.cell {w : World} {s : Value} {l : List Rg} (h : RSl w s l) {j : Nat} (hj : j < l.length) : ∃ g o cap, s = .slice (some ⟨g, o, none⟩) l.length cap ∧ g < w.heap.size ∧ ∀ W, Below w.heap.size w W → W.cell? ⟨g, o + j * 2, none⟩ = some (.int .i64 l[j]!.1) ∧ W.cell? ⟨g, o + j * 2 + 1, none⟩ = some (.int .i64 l[j]!.2) := by
  obtain ⟨g, o, cap, e, _, hg, hd⟩ := h.at (by omega)
  refine ⟨g, o, cap, e, hg, fun W hW => ?_⟩
  rw [← (hd j hj).1, ← (hd j hj).2]
  exact ⟨World.cell?_of_block (w := w) (hW.block g hg), World.cell?_of_block (w := w) (hW.block g hg)⟩
set_option maxHeartbeats 4000000 in
theorem nonempty_ok (w : World) (a m : Nat) (ls : List (List Rg)) (hv : VAt w a ls) (hm : ls.length = m) (hn : ls.flatten.length ≤ 1000000000) (hm2 : m ≤ 1000000) :
    Calls Tryz.prog 267 #[.slice (some ⟨a, 0, none⟩) m m] w fun e w' => ∃ v, e = .returned v ∧ OwnR w.heap.size w' v (neL ls.flatten) ∧ Below w.heap.size w w' := by
  obtain ⟨i0, hi0, hz0, hz1, hz2⟩ := info_parts info_rg
  have HV := Lib.hid hv
  have HM := Lib.hid hm
  have HF := Lib.hid (fun i => Nat.le_trans (tot_le ls i) hn)
  have HN := Lib.hid hn
  clear hv hm hn
  go_enter Tryz.func267, Tryz.ntmps267
  go_wp2_with fail
  go_loopw [3, 10] (fun lv iv wr => RelOS w ls lv iv wr) (fun _ iv _ => m - (Lib.intOf iv).toNat)
  case atStart => exact ⟨0, Nat.zero_le _, rfl, OwnR.nil _ _, Below.refl _ _⟩
  case round =>
    obtain ⟨i, hi, rfl, hown, hbel⟩ := hrel
    have HO := Lib.hid hown
    have HB := Lib.hid hbel
    clear hown hbel
    by_cases hlt : i < m
    · have q1 : decide ((i : Int) < (m : Int)) = true := decide_eq_true (by omega)
      have q1n : decide (i < m) = true := decide_eq_true hlt
      have hil : i < ls.length := by have := HM.out; omega
      obtain ⟨s, hs0, hr⟩ := HV.out i hil
      have hs := (World.cell?_of_block (w := w) (a := ⟨a, i, none⟩) (HB.out.block a (World.block_lt_of_cell? w _ hs0))).trans hs0
      clear hs0
      have HT := Lib.hid (tot_succ hil)
      obtain ⟨S, hS⟩ : ∃ S, ls[i]! = S := ⟨_, rfl⟩
      rw [hS] at hr HT
      have q3 : IntKind.i64.wrap ((i : Int) + 1) = ((i + 1 : Nat) : Int) := wrap_succ hlt (by omega)
      have hsl : S.length ≤ 1000000000 := by
        have h1 := HN.out
        have h2 : S.length ≤ ls.flatten.length := by
          rw [← hS, getElem!_pos ls i hil]
          exact (List.sublist_flatten_of_mem (List.getElem_mem hil)).length_le
        omega
      rcases Nat.eq_zero_or_pos S.length with h0 | h0
      · obtain rfl : S = [] := List.length_eq_zero_iff.1 h0
        obtain ⟨sa, scap, rfl⟩ := hr.shape
        have HR := Lib.hid hr
        clear hr hS h0 hsl
        simp only [List.length_nil] at hs
        go_wp2_with fail
        go_loopw [3, 16] (fun lv jv wr2 => jv = .int .i64 0 ∧ OwnR w.heap.size wr2 lv (tot ls i) ∧ Below w.heap.size w wr2) (fun _ _ _ => 0)
        case atStart => exact ⟨rfl, HO.out, HB.out⟩
        case round =>
          obtain ⟨rfl, hown, hbel⟩ := hrel
          have HO2 := Lib.hid hown
          have HB2 := Lib.hid hbel
          clear hown hbel
          go_wp2_with fail
          go_roundw
          case rel => exact ⟨i + 1, by have := HM.out; omega, rfl, by rw [HT.out]; simpa [neL] using HO2.out, HB2.out⟩
          case measure => simp only [Lib.intOf]; omega
      · obtain ⟨g, o, cap, rfl, hcap, hg, hd⟩ := hr.at h0
        have HG := Lib.hid hg
        have HD := Lib.hid (fun j (hj : j < S.length) (W : World) (hW : Below w.heap.size w W) => (show W.cell? ⟨g, o + j * 2, none⟩ = some (.int .i64 S[j]!.1) ∧ W.cell? ⟨g, o + j * 2 + 1, none⟩ = some (.int .i64 S[j]!.2) from by
          rw [← (hd j hj).1, ← (hd j hj).2]
          exact ⟨World.cell?_of_block (w := w) (hW.block g hg), World.cell?_of_block (w := w) (hW.block g hg)⟩))
        obtain ⟨n, hnn⟩ : ∃ n, S.length = n := ⟨_, rfl⟩
        rw [hnn] at HD hs hsl hcap
        have HNN := Lib.hid hnn
        have HTL := Lib.hid (HF.out (i + 1))
        have HTA := Lib.hid (HF.out i)
        clear hr hS hnn h0 hd hg
        go_wp2_with fail
        go_loopw [3, 16] (fun lv jv wr2 => RelI w (tot ls i) S lv jv wr2) (fun _ jv _ => n - (Lib.intOf jv).toNat)
        case atStart => exact ⟨0, Nat.zero_le _, rfl, by simpa [neL] using HO.out, HB.out⟩
        case round =>
          obtain ⟨j, hj, rfl, hown, hbel⟩ := hrel
          have HO2 := Lib.hid hown
          have HB2 := Lib.hid hbel
          clear hown hbel
          have hacc : (tot ls i ++ neL (S.take j)).length ≤ 2000000000 := by
            rw [List.length_append]
            have h1 := neL_le (S.take j)
            have h2 : (S.take j).length ≤ S.length := List.length_take_le' _ _
            have h3 := HTA.out
            have h4 := HNN.out
            omega
          by_cases hjt : j < n
          · have q2 : decide ((j : Int) < (n : Int)) = true := decide_eq_true (by omega)
            have q2n : decide (j < n) = true := decide_eq_true hjt
            have q4 : IntKind.i64.wrap ((j : Int) + 1) = ((j + 1 : Nat) : Int) := wrap_succ hjt (by omega)
            have hjs : j < S.length := by have := HNN.out; omega
            obtain ⟨c1, c2⟩ := HD.out j hjt _ HB2.out
            have HYES := Lib.hid (neL_take_yes hjs)
            have HNO := Lib.hid (neL_take_no hjs)
            have hgw : g < wr.heap.size := Nat.lt_of_lt_of_le HG.out HB2.out.size
            obtain ⟨x, hx⟩ : ∃ x, S[j]!.1 = x := ⟨_, rfl⟩
            obtain ⟨y, hy⟩ : ∃ y, S[j]!.2 = y := ⟨_, rfl⟩
            have hxy : S[j]! = (x, y) := by rw [← hx, ← hy]
            rw [hx] at c1
            rw [hy] at c2
            rw [hxy] at HYES HNO
            have HO3 := Lib.hid (HO2.out.below ((Below.refl wr.heap.size wr).alloc (Nat.le_refl _) (.cells #[.int .i64 x, .int .i64 y] 66)))
            have HB3 := Lib.hid (HB2.out.alloc HB2.out.size (.cells #[.int .i64 x, .int .i64 y] 66))
            have HX3 := Lib.hid (show ∀ W, Below (wr.alloc (.cells #[.int .i64 x, .int .i64 y] 66)).heap.size (wr.alloc (.cells #[.int .i64 x, .int .i64 y] 66)) W → W.cell? ⟨wr.heap.size, 0, none⟩ = some (.int .i64 x) ∧ W.cell? ⟨wr.heap.size, 1, none⟩ = some (.int .i64 y) from fun W hW => ⟨(hW.cell (p := ⟨wr.heap.size, 0, none⟩) (by simp)).trans (by simp), (hW.cell (p := ⟨wr.heap.size, 1, none⟩) (by simp)).trans (by simp)⟩)
            clear hx hy hxy HO2 HB2
            go_wp2_with fail
            refine (isEmpty_ok x y _).mono ?_
            rintro e w3 ⟨rfl, hb⟩
            obtain ⟨d1, d2⟩ := HX3.out w3 hb
            have HO4 := Lib.hid (HO3.out.below hb)
            have HB4 := Lib.hid (HB3.out.trans (hb.mono HB3.out.size))
            clear hb c1 c2 HO3 HB3 HX3
            by_cases he : y < x
            · have e1 : decide (y < x) = true := decide_eq_true he
              rw [e1]
              have HO5 := Lib.hid (HNO.out (by omega))
              go_wp2_with fail
              go_roundw
              case rel => exact ⟨j + 1, hjs, rfl, by rw [HO5.out]; exact HO4.out, HB4.out⟩
              case measure => simp only [Lib.intOf]; omega
            · have e1 : decide (y < x) = false := decide_eq_false he
              rw [e1]
              have HO5 := Lib.hid (HYES.out (by omega))
              go_wp2_with (at_builtin; refine wpList_append_own _ rfl (.tmp 23) (.tmp 25) 42 rfl w.heap.size 66 i0 rgZero 2 16 Tryz.underlying42 hi0 hz0 hz1 hz2 rfl (by decide) _ (tot ls i ++ neL (S.take j)).length (rcells (tot ls i ++ neL (S.take j))) rfl (World.ownsRow.alloc HO4.out _) ⟨w3.heap.size, 0, none⟩ 1 1 [.int .i64 x, .int .i64 y] rfl rfl (new_rg _ _ _) (one_rg x y) (by unfold maxLen; omega) (by omega) (by have := HB4.out.size; simp; omega) ?_; intro v' w4 hown4 hgr4 _; have HO6 := Lib.hid (own_snoc hown4); have HB6 := Lib.hid (own_grown HB4.out HO4.out (Nat.le_refl _) HB4.out.size _ hgr4); clear hown4 hgr4)
              go_roundw
              case rel => exact ⟨j + 1, hjs, rfl, by rw [HO5.out, ← List.append_assoc]; exact HO6.out, HB6.out⟩
              case measure => simp only [Lib.intOf]; omega
          · have q2 : decide ((j : Int) < (n : Int)) = false := decide_eq_false (by omega)
            have q2n : decide (j < n) = false := decide_eq_false hjt
            have HO3 := Lib.hid (show OwnR w.heap.size wr _ (tot ls (i + 1)) by
              have h1 := HNN.out
              have h2 : S.take j = S := List.take_of_length_le (by omega)
              rw [HT.out, ← h2]
              exact HO2.out)
            go_wp2_with fail
            go_roundw
            case rel => exact ⟨i + 1, by have := HM.out; omega, rfl, HO3.out, HB2.out⟩
            case measure => simp only [Lib.intOf]; omega
    · have q1 : decide ((i : Int) < (m : Int)) = false := decide_eq_false (by omega)
      have q1n : decide (i < m) = false := decide_eq_false hlt
      have hT : tot ls i = neL ls.flatten := by
        unfold tot
        rw [List.take_of_length_le (by have := HM.out; omega)]
      rw [hT] at HO
      go_wp2_with fail
      go_ret
      exact ⟨_, rfl, HO.out, HB.out⟩
end Go.Proofs.YtjhecpkdpomkmaaGreat

namespace Go.Proofs.YtjhecpkdpomkmaaGreat
open Go.RowKit Go.Shelf
set_option linter.unusedVariables false
set_option linter.unusedSimpArgs false
set_option maxRecDepth 100000

theorem wpList_append_room {w : World} {ops : Array Oper} {rest : List Oper} {o : Oper} {a : Act} {Q : Exit → Act → World → Prop} (hgd : o.guard = none) (s x : Operand)
    (ho : o.op = .call { callee := .builtin .append, args := #[s, x], argTypes := #[42, 42] })
    (g k cap : Nat) (cur : List Rg) (hs : a.eval s = .slice (some ⟨g, 0, none⟩) k cap) (hrow : Row w g cap cur) (hk : k < cur.length)
    (b : Nat) (x1 x2 : Int) (hx : a.eval x = .slice (some ⟨b, 0, none⟩) 1 1) (hnews : ∀ j u, [Value.int .i64 x1, .int .i64 x2][j]? = some u → w.cell? ((⟨b, 0, none⟩ : Addr).add j) = some u)
    (h : ∀ w', Row w' g cap (cur.set k (x1, x2)) → OnlyS g w w' → wpList Tryz.prog ops Q rest (a.put o.dst (.slice (some ⟨g, 0, none⟩) (k + 1) cap)) w') : wpList Tryz.prog ops Q (o :: rest) a w := by
  obtain ⟨i0, hi0, hz0, hz1, hz2⟩ := info_parts info_rg
  refine wpList_plain hgd fun K hK => ?_
  have hle := hrow.le
  obtain ⟨r, h1, h2⟩ := hrow
  have hlen := rcells_length cur
  rw [List.length_append] at h2
  have hr := run_append_room (P := Tryz.prog) w 42 o.type 66 i0 Tryz.underlying42 hi0 g k cap (rcells cur ++ r).toArray h1 ⟨b, 0, none⟩ 1 1 [.int .i64 x1, .int .i64 x2] (by rw [hz1]; rfl) hnews (one_rg x1 x2) (by omega) (by rw [hz1]; simp only [List.length_cons, List.length_nil, List.size_toArray, List.length_append]; omega)
  unfold Oper.wp execOp
  simp only [ho, resolve, invoke, builtin, Sem.run_bind, Sem.run_pure, Result.andThen_ok, List.map_toArray, List.map_cons, List.map_nil, hs, hx, hr]
  have e : (rcells cur ++ r).toArray.toList.take (k * i0.size) ++ [.int .i64 x1, .int .i64 x2] ++ (rcells cur ++ r).toArray.toList.drop (k * i0.size + [Value.int .i64 x1, .int .i64 x2].length) = rcells (cur.set k (x1, x2)) ++ r := by
    rw [hz1]
    exact rcells_set cur k (x1, x2) r hk
  rw [e]
  refine hK _ _ (h _ ⟨r, setRow_heap w g _ _ 66 _ h1, ?_⟩ ⟨rfl, rfl, rfl, by simp, fun i hi hne => setRow_other w g i _ hne⟩)
  rw [List.length_append, rcells_length, List.length_set]
  omega
theorem Row.setHi {w : World} {g cap : Nat} {l : List Rg} (h : Row w g cap l) {k : Nat} (hk : k < l.length) (z : Int) : Row (w.setCell ⟨g, k * 2 + 1, none⟩ (.int .i64 z)) g cap (l.set k (l[k]!.1, z)) := by
  have hlt := h.lt
  obtain ⟨r, h1, h2⟩ := h
  refine ⟨r, ?_, ?_⟩
  · rw [Sort.setCell_eq]
    unfold Sort.mapBlock
    show (w.heap.modify g _)[g]? = _
    rw [Array.getElem?_modify, if_pos rfl, h1]
    simp only [Option.map_some, Sort.onCells]
    rw [← rcells_set_hi l k z r hk]
    simp
  · rw [← h2, List.length_append, List.length_append, rcells_length, rcells_length, List.length_set]
/-- what is known ahead of round i -/
structure JR (w : World) (g cap : Nat) (l : List Rg) (i : Nat) (kept cur : List Rg) (wr : World) : Prop where
  row : Row wr g cap cur
  len : cur.length = l.length
  inv : JInv (l.take i) kept
  head : cur.take kept.length = kept
  tail : ∀ j, i ≤ j → j < l.length → cur[j]! = l[j]!
  only : OnlyS g w wr
def RelJ (w : World) (g cap : Nat) (l : List Rg) (kv iv : Value) (wr : World) : Prop :=
  ∃ (i : Nat) (kept cur : List Rg), i ≤ l.length ∧ iv = .int .i64 (i : Nat) ∧ kv = .slice (some ⟨g, 0, none⟩) kept.length cap ∧ JR w g cap l i kept cur wr
theorem JR.keptLe {w wr : World} {g cap : Nat} {l : List Rg} {i : Nat} {kept cur : List Rg} (h : JR w g cap l i kept cur wr) (hi : i ≤ l.length) : kept.length ≤ i := by
  have := h.inv.len
  rw [List.length_take] at this
  omega
theorem set_get_other (l : List Rg) (k j : Nat) (r : Rg) (h : k ≠ j) : (l.set k r)[j]! = l[j]! := by
  simp [List.getElem!_eq_getElem?_getD, List.getElem?_set, h]
theorem take_set_snoc (cur kept : List Rg) (r : Rg) (h : cur.take kept.length = kept) (hl : kept.length < cur.length) : (cur.set kept.length r).take (kept ++ [r]).length = kept ++ [r] := by
  rw [List.length_append, List.length_singleton, List.take_add_one, List.take_set_of_le (Nat.le_refl _), h]
  simp [hl]
theorem JR.app {w wr w4 : World} {g cap : Nat} {l : List Rg} {i : Nat} {kept cur : List Rg} (h : JR w g cap l i kept cur wr) (hi : i < l.length) (hst : stpS kept l[i]! = kept ++ [l[i]!]) (hinv : JInv (l.take (i + 1)) (stpS kept l[i]!)) (hrow : Row w4 g cap (cur.set kept.length l[i]!)) (ho : OnlyS g w w4) : JR w g cap l (i + 1) (kept ++ [l[i]!]) (cur.set kept.length l[i]!) w4 := by
  have hk := h.keptLe (by omega)
  have hlen := h.len
  refine ⟨hrow, by rw [List.length_set]; exact h.len, by rw [← hst]; exact hinv, take_set_snoc _ _ _ h.head (by omega), fun j h1 h2 => ?_, ho⟩
  rw [set_get_other _ _ _ _ (by omega)]
  exact h.tail j (by omega) h2
theorem JR.join {w wr w4 : World} {g cap : Nat} {l : List Rg} {i : Nat} {a cur : List Rg} {k : Rg} {z : Int} (h : JR w g cap l i (a ++ [k]) cur wr) (hi : i < l.length) (hst : stpS (a ++ [k]) l[i]! = a ++ [(k.1, z)]) (hinv : JInv (l.take (i + 1)) (stpS (a ++ [k]) l[i]!)) (hrow : Row w4 g cap (cur.set a.length (k.1, z))) (ho : OnlyS g w w4) : JR w g cap l (i + 1) (a ++ [(k.1, z)]) (cur.set a.length (k.1, z)) w4 := by
  have hk := h.keptLe (by omega)
  have hlen := h.len
  have hh := h.head
  rw [List.length_append, List.length_singleton] at hk hh
  have ha : cur.take a.length = a := by
    have := congrArg (List.take a.length) hh
    rw [List.take_take] at this
    simpa [show min a.length (a.length + 1) = a.length by omega] using this
  refine ⟨hrow, by rw [List.length_set]; exact h.len, by rw [← hst]; exact hinv, ?_, fun j h1 h2 => ?_, ho⟩
  · have := take_set_snoc cur a (k.1, z) ha (by omega)
    exact this
  · rw [set_get_other _ _ _ _ (by omega)]
    exact h.tail j (by omega) h2
theorem JR.last {w wr : World} {g cap : Nat} {l : List Rg} {i : Nat} {a cur : List Rg} {k : Rg} (h : JR w g cap l i (a ++ [k]) cur wr) (hi : i ≤ l.length) : a.length < cur.length ∧ cur[a.length]! = k := by
  have hk := h.keptLe hi
  have hlen := h.len
  have hh := h.head
  rw [List.length_append, List.length_singleton] at hk hh
  have h1 : a.length < cur.length := by omega
  refine ⟨h1, ?_⟩
  have h2 : (cur.take (a.length + 1))[a.length]? = some k := by rw [hh]; simp
  rw [List.getElem?_take, if_pos (by omega)] at h2
  rw [List.getElem!_eq_getElem?_getD, h2]
  rfl
end Go.Proofs.YtjhecpkdpomkmaaGreat

namespace Go.Proofs.YtjhecpkdpomkmaaGreat
open Go.RowKit Go.Shelf
set_option linter.unusedVariables false
set_option linter.unusedSimpArgs false
set_option maxRecDepth 100000

theorem JR.drew {w wr : World} {g cap : Nat} {l : List Rg} {i : Nat} {kept cur : List Rg} (h : JR w g cap l i kept cur wr) : JR w g cap l i kept cur wr.drew :=
  ⟨h.row.below (Below.refl _ _).drew, h.len, h.inv, h.head, h.tail, h.only.trans (OnlyS.of_below (Below.refl _ _).drew)⟩
set_option maxHeartbeats 4000000 in
theorem joined_ok (w : World) (g cap n : Nat) (l : List Rg) (h : Row w g cap l) (hn : l.length = n) (hne : ∀ r ∈ l, r.1 ≤ r.2) (hb : Bd l) (hs : ∀ i j, i < j → j < l.length → l[i]!.1 ≤ l[j]!.1) (hl : n ≤ 1000000000) :
    Calls Tryz.prog 271 #[.slice (some ⟨g, 0, none⟩) n cap] w fun e w' => ∃ (r cur : List Rg), e = .returned (.slice (some ⟨g, 0, none⟩) r.length cap) ∧ JInv l r ∧ Row w' g cap cur ∧ cur.take r.length = r ∧ OnlyS g w w' := by
  have HSTEP := Lib.hid (show ∀ i kept, i < l.length → JInv (l.take i) kept → JInv (l.take (i + 1)) (stpS kept l[i]!) from fun i kept hi hk => by
    rw [take_succ_get hi]
    refine hk.step ?_ ?_ ?_
    · rw [getElem!_pos l i hi]; exact hne _ (List.getElem_mem hi)
    · exact hb.get hi
    · intro d hd
      obtain ⟨j, hj, rfl⟩ := List.mem_iff_getElem.1 hd
      have hj2 : j < i := by rw [List.length_take] at hj; omega
      have := hs j i hj2 hi
      rw [getElem!_pos l j (by omega)] at this
      rw [List.getElem_take]
      exact this)
  have HBD := Lib.hid hb
  have HN := Lib.hid hn
  have H0 := Lib.hid h
  have hcap := h.le
  rw [hn] at hcap
  clear h hn hne hb hs
  go_enter Tryz.func271, Tryz.ntmps271
  go_wp2_with fail
  go_loopw [3, 11] (fun kv iv wr => RelJ w g cap l kv iv wr) (fun _ iv _ => n - (Lib.intOf iv).toNat)
  case atStart => exact ⟨0, [], l, Nat.zero_le _, rfl, rfl, ⟨H0.out, rfl, JInv.nil, rfl, fun _ _ _ => rfl, OnlyS.refl _ _⟩⟩
  case round =>
    obtain ⟨i, kept, cur, hi, rfl, rfl, hjr⟩ := hrel
    have HJ := Lib.hid hjr
    clear hjr
    by_cases hlt : i < n
    · have q1 : decide ((i : Int) < (n : Int)) = true := decide_eq_true (by omega)
      have q1n : decide (i < n) = true := decide_eq_true hlt
      have q3 : IntKind.i64.wrap ((i : Int) + 1) = ((i + 1 : Nat) : Int) := wrap_succ hlt (by omega)
      have hil : i < l.length := by have := HN.out; omega
      have hcl : cur.length = n := by rw [HJ.out.len]; exact HN.out
      have hkl : kept.length ≤ i := HJ.out.keptLe hi
      have HINV := Lib.hid (HSTEP.out i kept hil HJ.out.inv)
      obtain ⟨c1, c2⟩ := HJ.out.row.cell i (by omega)
      rw [HJ.out.tail i (Nat.le_refl _) hil] at c1 c2
      have HBI := Lib.hid (HBD.out.get hil)
      obtain ⟨x, hx⟩ : ∃ x, l[i]!.1 = x := ⟨_, rfl⟩
      obtain ⟨y, hy⟩ : ∃ y, l[i]!.2 = y := ⟨_, rfl⟩
      have hxy : l[i]! = (x, y) := by rw [← hx, ← hy]
      rw [hx] at c1 HBI
      rw [hy] at c2 HBI
      have HXY := Lib.hid hxy
      have hgw : g < wr.heap.size := HJ.out.row.lt
      have HR1 := Lib.hid (HJ.out.row.below ((Below.refl wr.heap.size wr).alloc (Nat.le_refl _) (.cells #[.int .i64 x, .int .i64 y] 66)))
      have HO1 := Lib.hid (HJ.out.only.trans (OnlyS.of_below ((Below.refl wr.heap.size wr).alloc (Nat.le_refl _) (.cells #[.int .i64 x, .int .i64 y] 66))))
      have HX1 := Lib.hid (show (wr.alloc (.cells #[.int .i64 x, .int .i64 y] 66)).cell? ⟨wr.heap.size, 0, none⟩ = some (.int .i64 x) ∧ (wr.alloc (.cells #[.int .i64 x, .int .i64 y] 66)).cell? ⟨wr.heap.size, 1, none⟩ = some (.int .i64 y) ∧ wr.heap.size < (wr.alloc (.cells #[.int .i64 x, .int .i64 y] 66)).heap.size from ⟨by simp, by simp, by simp⟩)
      clear hx hy hxy
      rcases snoc_cases kept with rfl | ⟨a, k, rfl⟩
      · -- the first one
        simp only [List.length_nil] at hkl ⊢
        go_wp2_with fail
        generalize wr.alloc (.cells #[.int .i64 x, .int .i64 y] 66) = W1 at *
        generalize wr.heap.size = b at *
        obtain ⟨d1, d2, hb1⟩ := HX1.out
        clear c1 c2 HX1
        go_region
        have HR := Lib.hid (HR1.out.below (Below.refl W1.heap.size W1).drew)
        have HO := Lib.hid (HO1.out.trans (OnlyS.of_below (Below.refl W1.heap.size W1).drew))
        have f1 : W1.drew.cell? ⟨b, 0, none⟩ = some (.int .i64 x) := d1
        have f2 : W1.drew.cell? ⟨b, 1, none⟩ = some (.int .i64 y) := d2
        clear HR1 HO1 d1 d2
        generalize W1.drew = W2 at *
        go_wp2_with (at_builtin; refine wpList_append_room rfl (.tmp 28) (.tmp 30) rfl g 0 cap cur rfl (HR.out.below ((Below.refl _ _).alloc (Nat.le_refl _) _)) (by omega) _ x y rfl (new_rg _ _ _) ?_; intro w4 hrow4 ho4; have HR4 := Lib.hid hrow4; have HO4 := Lib.hid (HO.out.trans ((OnlyS.of_below ((Below.refl _ _).alloc (Nat.le_refl _) (.cells #[.int .i64 x, .int .i64 y] 66))).trans ho4)); clear hrow4 ho4)
        have HJ2 := Lib.hid (HJ.out.app hil (by rw [stp_nil]; rfl) HINV.out (by rw [HXY.out]; exact HR4.out) HO4.out)
        go_roundw
        case rel => exact ⟨i + 1, _, _, hil, rfl, rfl, HJ2.out⟩
        case measure => simp only [Lib.intOf]; omega
      · -- one before it
        obtain ⟨k1, k2⟩ := k
        obtain ⟨hal, hlast⟩ := HJ.out.last hi
        obtain ⟨m, hm⟩ : ∃ m, a.length = m := ⟨_, rfl⟩
        have HAM := Lib.hid hm
        have hkl2 : m + 1 ≤ i := by have := hkl; rw [List.length_append, List.length_singleton, hm] at this; exact this
        have e1 : (a ++ [(k1, k2)]).length = m + 1 := by rw [List.length_append, List.length_singleton, hm]
        rw [hm] at hal hlast
        obtain ⟨g1, g2⟩ := HR1.out.cell m hal
        rw [hlast] at g1 g2
        have hk2 : I64 k2 := (HJ.out.inv.bd (k1, k2) (by simp)).2
        have q5 : IntKind.i64.wrap (((m + 1 : Nat) : Int) - 1) = (m : Int) := by rw [IntKind.wrap_i64]; omega
        have q6 : decide ((m : Int) < 0) = false := decide_eq_false (by omega)
        have HLAST := Lib.hid hlast
        simp only [e1]
        clear hlast hm hkl
        go_wp2_with fail
        generalize wr.alloc (.cells #[.int .i64 x, .int .i64 y] 66) = W1 at *
        generalize wr.heap.size = b at *
        obtain ⟨d1, d2, hb1⟩ := HX1.out
        have p1 := fun d os => cell_regrown d1 d os
        have p2 := fun d os => cell_regrown d2 d os
        have p3 := fun d os => cell_regrown g1 d os
        have p4 := fun d os => cell_regrown g2 d os
        have hmcap : (m : Int) < ((m + 1 : Nat) : Int) := by omega
        have HCL := Lib.hid (fun (d : Nat) (os : Array Obj) => Calls.regrown_of (isApart_ok k1 k2 x y (Go.Sort.grow (redrawn W1 d) os) hk2 HBI.out.1))
        clear c1 c2 HX1 g1 g2 d1 d2
        by_cases hap : k2 + 1 < x
        · have e2 : decide (k2 + 1 < x) = true := decide_eq_true hap
          rw [e2] at HCL
          refine wp_region_quiet_below (by kernel_rfl) (by kernel_rfl) ?_
          go_big_quiet_step (fail)
          go_big_quiet_step (fail)
          go_big_quiet_step (fail)
          go_big_quiet_step (fail)
          go_big_quiet_step (fail)
          go_big_quiet_step (fail)
          go_big_quiet_step (fail)
          go_big_quiet_step (fail)
          go_big_quiet_step (exact HCL.out _ _)
          go_big_quiet_step (fail)
          refine wpQuiet_nil ?_
          intro _ hw'
          obtain ⟨⟨dq, osq⟩, hw''⟩ := hw'
          subst hw''
          have hb2 := below_regrown W1 dq osq
          have f1 := p1 dq osq
          have f2 := p2 dq osq
          have HR := Lib.hid (HR1.out.below hb2)
          have HO := Lib.hid (HO1.out.trans (OnlyS.of_below hb2))
          clear p1 p2 p3 p4 HCL HR1 HO1 hb2
          generalize Go.Sort.grow (redrawn W1 dq) osq = W2 at *
          go_wp2_with (at_builtin; refine wpList_append_room rfl (.tmp 28) (.tmp 30) rfl g (m + 1) cap cur rfl (HR.out.below ((Below.refl _ _).alloc (Nat.le_refl _) _)) (by omega) _ x y rfl (new_rg _ _ _) ?_; intro w4 hrow4 ho4; have HR4 := Lib.hid hrow4; have HO4 := Lib.hid (HO.out.trans ((OnlyS.of_below ((Below.refl _ _).alloc (Nat.le_refl _) (.cells #[.int .i64 x, .int .i64 y] 66))).trans ho4)); clear hrow4 ho4)
          have HJ2 := Lib.hid (HJ.out.app hil (by rw [HXY.out]; exact stp_apart hap) HINV.out (by rw [HXY.out, e1]; exact HR4.out) HO4.out)
          go_roundw
          case rel => exact ⟨i + 1, _, _, hil, rfl, by rw [List.length_append, e1]; rfl, HJ2.out⟩
          case measure => simp only [Lib.intOf]; omega
        · have e2 : decide (k2 + 1 < x) = false := decide_eq_false hap
          rw [e2] at HCL
          refine wp_region_quiet_below (by kernel_rfl) (by kernel_rfl) ?_
          go_big_quiet_step (fail)
          go_big_quiet_step (fail)
          go_big_quiet_step (fail)
          go_big_quiet_step (fail)
          go_big_quiet_step (fail)
          go_big_quiet_step (fail)
          go_big_quiet_step (fail)
          go_big_quiet_step (fail)
          go_big_quiet_step (exact HCL.out _ _)
          go_big_quiet_step (fail)
          refine wpQuiet_nil ?_
          intro _ hw'
          obtain ⟨⟨dq, osq⟩, hw''⟩ := hw'
          subst hw''
          have hb2 := below_regrown W1 dq osq
          have f1 := p1 dq osq
          have f2 := p2 dq osq
          have f4 := p4 dq osq
          have HR := Lib.hid (HR1.out.below hb2)
          have HO := Lib.hid (HO1.out.trans (OnlyS.of_below hb2))
          have fz := HR.out.frozen (m * 2 + 1)
          clear p1 p2 p3 p4 HCL HR1 HO1 hb2
          generalize Go.Sort.grow (redrawn W1 dq) osq = W2 at *
          obtain ⟨z, hz⟩ : ∃ z, max k2 y = z := ⟨_, rfl⟩
          have HZ := Lib.hid hz
          have HJ2 := Lib.hid (HJ.out.join (z := z) hil (by rw [HXY.out, ← HZ.out]; exact stp_join hap) HINV.out (by have := HR.out.setHi hal z; rw [HLAST.out] at this; rw [HAM.out]; exact this) (HO.out.trans (OnlyS.setCell _ _)))
          have e3 : (a ++ [(k1, z)]).length = m + 1 := by rw [List.length_append, List.length_singleton, HAM.out]
          go_wp2_with fail
          have hmc2 : (m : Int) < (m : Int) + 1 := by omega
          go_still_tail 12, (by kernel_rfl)
          go_wp2_with fail
          go_roundw
          case rel => exact ⟨i + 1, _, _, hil, rfl, by rw [e3], HJ2.out.drew⟩
          case measure => simp only [Lib.intOf]; omega
    · have q1 : decide ((i : Int) < (n : Int)) = false := decide_eq_false (by omega)
      have q1n : decide (i < n) = false := decide_eq_false hlt
      obtain rfl : i = l.length := by have := HN.out; omega
      have HI := HJ.out.inv
      rw [List.take_length] at HI
      have HI2 := Lib.hid HI
      clear HI
      go_wp2_with fail
      go_ret
      exact ⟨kept, cur, rfl, HI2.out, HJ.out.row, HJ.out.head, HJ.out.only⟩
end Go.Proofs.YtjhecpkdpomkmaaGreat

namespace Go.Proofs.YtjhecpkdpomkmaaGreat
open Go.RowKit Go.Shelf
set_option linter.unusedVariables false
set_option linter.unusedSimpArgs false
set_option maxRecDepth 100000

theorem mem_perm {a b : List Rg} (h : a.Perm b) (n : Int) : mem a n ↔ mem b n := by
  unfold mem
  exact ⟨fun ⟨r, hr, x⟩ => ⟨r, h.mem_iff.1 hr, x⟩, fun ⟨r, hr, x⟩ => ⟨r, h.mem_iff.2 hr, x⟩⟩
theorem mem_flatten (ls : List (List Rg)) (n : Int) : mem ls.flatten n ↔ ∃ s ∈ ls, mem s n := by
  unfold mem
  constructor
  · rintro ⟨r, hr, x⟩
    obtain ⟨s, hs, h2⟩ := List.mem_flatten.1 hr
    exact ⟨s, hs, r, h2, x⟩
  · rintro ⟨s, hs, r, h2, x⟩
    exact ⟨r, List.mem_flatten.2 ⟨s, hs, h2⟩, x⟩
theorem VAt.bd {w : World} {a : Nat} {ls : List (List Rg)} (h : VAt w a ls) : Bd ls.flatten := by
  intro r hr
  obtain ⟨s, hs, h2⟩ := List.mem_flatten.1 hr
  obtain ⟨i, hi, rfl⟩ := List.mem_iff_getElem.1 hs
  obtain ⟨v, _, h3⟩ := h i hi
  rw [getElem!_pos ls i hi] at h3
  exact h3.bd r h2
set_option maxHeartbeats 1000000 in
theorem joined_none (w : World) (a : Option Addr) (cap : Nat) : Calls Tryz.prog 271 #[.slice a 0 cap] w fun e w' => ∃ a' cap', e = .returned (.slice a' 0 cap') ∧ w' = w := by
  cases a with
  | none =>
    go_enter Tryz.func271, Tryz.ntmps271
    go_wp2_with fail
    go_loopw [3, 11] (fun kv iv wr => (∃ a2 cap2, kv = .slice a2 0 cap2) ∧ iv = .int .i64 0 ∧ wr = w) (fun _ _ _ => 0)
    case atStart => exact ⟨⟨_, _, rfl⟩, rfl, rfl⟩
    case round =>
      obtain ⟨⟨a2, cap2, rfl⟩, rfl, rfl⟩ := hrel
      go_wp2_with fail
      go_ret
      exact ⟨_, _, rfl, rfl⟩
  | some x =>
    go_enter Tryz.func271, Tryz.ntmps271
    go_wp2_with fail
    go_loopw [3, 11] (fun kv iv wr => (∃ a2 cap2, kv = .slice a2 0 cap2) ∧ iv = .int .i64 0 ∧ wr = w) (fun _ _ _ => 0)
    case atStart => exact ⟨⟨_, _, rfl⟩, rfl, rfl⟩
    case round =>
      obtain ⟨⟨a2, cap2, rfl⟩, rfl, rfl⟩ := hrel
      go_wp2_with fail
      go_ret
      exact ⟨_, _, rfl, rfl⟩
structure NormOf (ls : List (List Rg)) (r : List Rg) : Prop where
  rgt : rgt r
  tells : ∀ n, mem r n ↔ ∃ s ∈ ls, mem s n
  len : r.length ≤ ls.flatten.length
set_option maxHeartbeats 2000000 in
theorem normalized_ok (w : World) (a m : Nat) (ls : List (List Rg)) (hv : VAt w a ls) (hm : ls.length = m) (hn : ls.flatten.length ≤ 1000000000) (hm2 : m ≤ 1000000) :
    Calls Tryz.prog 255 #[.slice (some ⟨a, 0, none⟩) m m] w fun e w' => ∃ v r, e = .returned v ∧ RSl w' v r ∧ NormOf ls r ∧ Below w.heap.size w w' := by
  have hbd := hv.bd
  have HC := Lib.hid (nonempty_ok w a m ls hv hm hn hm2)
  have HBD := Lib.hid (neL_bd hbd)
  have hlen : (neL ls.flatten).length ≤ 1000000000 := Nat.le_trans (neL_le _) hn
  have HL := Lib.hid (neL_le ls.flatten)
  have HM := Lib.hid (fun n => (neL_mem ls.flatten n).trans (mem_flatten ls n))
  have HNE := Lib.hid (neL_ne ls.flatten)
  generalize neL ls.flatten = L at *
  clear hv hm hn hbd hm2
  go_enter Tryz.func255, Tryz.ntmps255
  go_wp2_with fail
  refine HC.out.mono ?_
  rintro e w1 ⟨v, rfl, hown, hb⟩
  have HO := Lib.hid hown
  have HB := Lib.hid hb
  clear hown hb HC
  rcases Nat.eq_zero_or_pos L.length with h0 | h0
  · obtain rfl : L = [] := List.length_eq_zero_iff.1 h0
    obtain ⟨sa, cap, rfl⟩ := (HO.out.rsl Bd.nil).shape
    have HS := Lib.hid (sort_none w1 sa cap)
    have HJ := Lib.hid (joined_none w1 sa cap)
    simp only [List.length_nil]
    clear HO h0 hlen
    go_wp2_with fail
    refine HS.out.mono ?_
    rintro e w2 ⟨rfl, rfl⟩
    go_wp2_with fail
    refine HJ.out.mono ?_
    rintro e w3 ⟨a', cap', rfl, rfl⟩
    go_wp2_with fail
    go_ret
    exact ⟨_, [], rfl, ⟨Bd.nil, .inr ⟨rfl, _, _, rfl⟩⟩, ⟨rgt_nil, HM.out, HL.out⟩, HB.out⟩
  · obtain ⟨g, cap, rfl, hg, hcap, hrow⟩ := HO.out.row h0
    obtain ⟨n, hnn⟩ : ∃ n, L.length = n := ⟨_, rfl⟩
    have HS := Lib.hid (sort_ok w1 g cap L hrow hlen)
    rw [hnn] at HS hlen ⊢
    have HNN := Lib.hid hnn
    have HG := Lib.hid hg
    have HCAP := Lib.hid hcap
    clear HO h0 hrow hnn hg hcap
    go_wp2_with fail
    refine HS.out.mono ?_
    rintro e w2 ⟨rfl, l', hp, hsort, hrow, ho⟩
    have HP := Lib.hid hp
    have HRW := Lib.hid hrow
    have HB2 := Lib.hid (HB.out.trans (ho.below HG.out HB.out.size))
    have HJ := Lib.hid (joined_ok w2 g cap n l' hrow (hp.length_eq.trans HNN.out) (fun r hr => HNE.out r (hp.mem_iff.1 hr)) (fun r hr => HBD.out r (hp.mem_iff.1 hr)) hsort hlen)
    clear hp hsort hrow ho HS
    go_wp2_with fail
    refine HJ.out.mono ?_
    rintro e w3 ⟨r, cur, rfl, hinv, hrow, hhead, ho⟩
    have HI := Lib.hid hinv
    have HB3 := Lib.hid (HB2.out.trans (ho.below HG.out HB2.out.size))
    have hrl : r.length ≤ cur.length := by
      have := congrArg List.length hhead
      rw [List.length_take] at this
      omega
    have HO3 := Lib.hid (show OwnR w.heap.size w3 (.slice (some ⟨g, 0, none⟩) r.length cap) r by
      have h1 := hrow.own (base := w.heap.size) (n := r.length) HG.out HCAP.out hrl
      rw [hhead] at h1
      exact h1)
    clear hinv hrow hhead ho HJ hrl
    go_wp2_with fail
    go_ret
    refine ⟨_, r, rfl, HO3.out.rsl HI.out.bd, ⟨HI.out.rgt, fun k => ?_, ?_⟩, HB3.out⟩
    · rw [HI.out.mem k, mem_perm HP.out k, HM.out k]
    · have h1 := HI.out.len
      have h2 := HP.out.length_eq
      have h3 := HL.out
      omega
end Go.Proofs.YtjhecpkdpomkmaaGreat
