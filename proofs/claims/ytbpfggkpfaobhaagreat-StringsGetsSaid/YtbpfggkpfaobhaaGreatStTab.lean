/-
  Package strings: alphabets: blank, spelled, isAlphabet.
-/
import Derived.Test.YtbpfggkpfaobhaaGreatStCl
import Derived.Deep.MidRow
import Derived.Deep.QuietTactic
import Derived.BigQuiet
namespace Go.Proofs.YtbpfggkpfaobhaaGreat
open Go.RowKit Go.Shelf
set_option linter.unusedVariables false
set_option linter.unusedSimpArgs false
set_option maxRecDepth 100000

/-- a table's cells -/
def tabL (f : Nat → Int) : List Value := (List.range 256).map fun c => Value.int .i64 (f c)
def tab (f : Nat → Int) : Array Value := (tabL f).toArray
theorem tabL_length (f : Nat → Int) : (tabL f).length = 256 := by simp [tabL]
theorem tabL_get (f : Nat → Int) (c : Nat) (h : c < 256) : (tabL f)[c]? = some (.int .i64 (f c)) := by simp [tabL, h]
def upd (f : Nat → Int) (i : Nat) (v : Int) : Nat → Int := fun c => if c = i then v else f c
theorem tab_upd (f : Nat → Int) (i : Nat) (v : Int) (hi : i < 256) : (tab f).set! i (.int .i64 v) = tab (upd f i v) := by
  unfold tab
  apply Array.ext'
  simp only [Array.set!_eq_setIfInBounds, List.setIfInBounds_toArray]
  apply List.ext_getElem?
  intro c
  rw [List.getElem?_set]
  rcases Nat.lt_or_ge c 256 with hc | hc
  · rw [tabL_get _ c hc, tabL_get _ c hc, tabL_length]
    unfold upd
    by_cases e : i = c
    · subst e; simp [hi]
    · rw [if_neg e, if_neg (fun h => e h.symm)]
  · rw [List.getElem?_eq_none (by rw [tabL_length]; exact hc), List.getElem?_eq_none (by rw [tabL_length]; exact hc), tabL_length, if_neg (by omega)]
def TabAt (w : World) (g : Nat) (f : Nat → Int) : Prop := w.heap[g]? = some (.cells (tab f) 75 (0, 0))
theorem TabAt.lt {w : World} {g : Nat} {f : Nat → Int} (h : TabAt w g f) : g < w.heap.size := (Array.getElem?_eq_some_iff.1 h).1
theorem TabAt.cell {w : World} {g : Nat} {f : Nat → Int} (h : TabAt w g f) (c : Nat) (hc : c < 256) : w.cell? ⟨g, c, none⟩ = some (.int .i64 (f c)) := cell_of_list h (tabL_get f c hc)
theorem TabAt.free {w : World} {g : Nat} {f : Nat → Int} (h : TabAt w g f) (c : Nat) : w.frozen? ⟨g, c, none⟩ = false := frozen_of_row w g c _ _ h
theorem TabAt.below {w w' : World} {g : Nat} {f : Nat → Int} (h : TabAt w g f) (ho : Below w.heap.size w w') : TabAt w' g f := (ho.block g h.lt).trans h
theorem TabAt.only {w w' : World} {g b : Nat} {f : Nat → Int} (h : TabAt w g f) (ho : Only b w w') (hb : g ≠ b) : TabAt w' g f := (ho.block g h.lt hb).trans h
theorem TabAt.set {w : World} {g : Nat} {f : Nat → Int} (h : TabAt w g f) (i : Nat) (v : Int) (hi : i < 256) : TabAt (w.setCell ⟨g, i, none⟩ (.int .i64 v)) g (upd f i v) := by
  have := heap_setCell_same w g i _ _ (.int .i64 v) h
  unfold TabAt
  rw [this, ← tab_upd f i v hi]
  simp
theorem TabAt.ext {w : World} {g : Nat} {f f' : Nat → Int} (h : TabAt w g f) (e : ∀ c, c < 256 → f c = f' c) : TabAt w g f' := by
  unfold TabAt tab tabL at h ⊢
  rw [h]
  congr 3
  apply List.map_congr_left
  intro c hc
  rw [e c (by simpa using hc)]
theorem TabAt.setCells {w : World} {g : Nat} {f f' : Nat → Int} (h : TabAt w g f) : TabAt (w.setCells g 0 (tabL f')) g f' := by
  have := heap_setCells_same g 75 (tabL f') 0 w (tabL f) h (by rw [tabL_length, tabL_length]; omega)
  unfold TabAt tab
  rw [this, List.take_zero, List.nil_append, Nat.zero_add, List.drop_of_length_le (by rw [tabL_length, tabL_length]; omega), List.append_nil]
theorem TabAt.there {w : World} {g : Nat} {f : Nat → Int} (h : TabAt w g f) : w.there g 0 256 := fun j hj => by
  rw [Nat.zero_add, h.cell j hj, h.free j]
  exact ⟨rfl, rfl⟩
theorem tab_zero : Tryz.zeroCells75 = tab fun _ => 0 := by kernel_rfl
theorem info_tab : (Tryz.prog.info? 75).map (·.size) = some 256 := by kernel_rfl
theorem tab_one (f : Nat → Int) : ∀ u ∈ tabL f, u.oneCell' = true := by
  intro u hu
  unfold tabL at hu
  simp only [List.mem_map] at hu
  obtain ⟨i, _, rfl⟩ := hu
  rfl
theorem tab_all (f : Nat → Int) : (tab f).all (·.oneCell') = true := all_oneCell_toArray (tab_one f)
theorem tab_size (f : Nat → Int) : (tab f).size = 256 := tabL_length f
theorem wpList_load_tab {ops : Array Oper} {rest : List Oper} {op : Oper} {a : Act} {w : World} {Q : Exit → Act → World → Prop} (hgd : op.guard = none) (x : Operand) (ho : op.op = .load 75 x)
    (g : Nat) (hx : a.eval x = .pointer (some ⟨g, 0, none⟩)) (f : Nat → Int) (h : TabAt w g f) (hK : wpList Tryz.prog ops Q rest (a.put op.dst (.agg (tab f))) w) : wpList Tryz.prog ops Q (op :: rest) a w :=
  wpList_load_row hgd 75 x ho g hx 75 (tab f) (0, 0) _ h Tryz.underlying75 rfl (by rw [info_tab, tab_size]) hK
theorem wpList_store_tab {ops : Array Oper} {rest : List Oper} {op : Oper} {a : Act} {w : World} {Q : Exit → Act → World → Prop} (hgd : op.guard = none) (x y : Operand) (ho : op.op = .store 75 x y)
    (g : Nat) (hx : a.eval x = .pointer (some ⟨g, 0, none⟩)) (f' : Nat → Int) (hy : a.eval y = .agg (tab f')) (f : Nat → Int) (h : TabAt w g f) (hK : wpList Tryz.prog ops Q rest (a.put op.dst undef) (w.setCells g 0 (tabL f'))) : wpList Tryz.prog ops Q (op :: rest) a w :=
  wpList_store_mid hgd 75 x y ho g 0 (tab f') hx hy (by rw [tab_size]; exact h.there) (by rw [info_tab, tab_size]) (tab_all f') hK
theorem results_tab {fn : Func} {p : Tmp} (h : fn.results = #[.cell p 75]) (tmps : Array Value) (w : World) (g : Nat) (f : Nat → Int) (hp : tmps.getD p undef = .pointer (some ⟨g, 0, none⟩)) (hg : TabAt w g f) :
    (results fn tmps).run Tryz.prog w = .ok (.agg (tab f)) w :=
  results_cell_row h tmps w g 75 (tab f) (0, 0) _ hp hg Tryz.underlying75 rfl (by rw [info_tab, tab_size])
theorem only_setCells {b g : Nat} {w0 W : World} (h : Only b w0 W) (hg : w0.heap.size ≤ g) (vs : List Value) (o : Nat) : Only b w0 (W.setCells g o vs) := by
  obtain ⟨h1, h2, h3, h4⟩ := os_setCells g vs o W
  exact ⟨h1.trans h.os, h2.trans h.tape, h3.trans h.output, by rw [h4]; exact h.size, fun k hk hb => (heap_setCells_other g k (by omega) vs o W).trans (h.block k hk hb)⟩
theorem below_set {w0 W : World} {g : Nat} (h : Below w0.heap.size w0 W) (hg : w0.heap.size ≤ g) (o : Nat) (v : Value) : Below w0.heap.size w0 (W.setCell ⟨g, o, none⟩ v) :=
  ⟨h.os, h.tape, h.output, by simpa using h.size, fun k hk => (heap_setCell_other _ _ _ _ (by show k ≠ g; omega)).trans (h.block k hk)⟩
theorem below_setCells {w0 W : World} {g : Nat} (h : Below w0.heap.size w0 W) (hg : w0.heap.size ≤ g) (vs : List Value) (o : Nat) : Below w0.heap.size w0 (W.setCells g o vs) := by
  obtain ⟨h1, h2, h3, h4⟩ := os_setCells g vs o W
  exact ⟨h1.trans h.os, h2.trans h.tape, h3.trans h.output, by rw [h4]; exact h.size, fun k hk => (heap_setCells_other g k (by omega) vs o W).trans (h.block k hk)⟩
def blF (j : Nat) : Nat → Int := fun c => if c < j then -1 else 0
theorem blF_next (j : Nat) : upd (blF j) j (-1) = blF (j + 1) := by
  funext c
  unfold upd blF
  by_cases h : c = j
  · subst h; rw [if_pos rfl, if_pos (by omega)]
  · rw [if_neg h]
    by_cases h2 : c < j
    · rw [if_pos h2, if_pos (by omega)]
    · rw [if_neg h2, if_neg (by omega)]
def RelBl (w : World) (i : Value) (wr : World) : Prop := ∃ j : Nat, j ≤ 256 ∧ i = .int .i64 j ∧ TabAt wr w.heap.size (fun _ => 0) ∧ TabAt wr (w.heap.size + 1) (blF j) ∧ Below w.heap.size w wr
theorem relBl_next {w wr : World} {j : Nat} (hj : j < 256) (h1 : TabAt wr w.heap.size (fun _ => 0)) (h2 : TabAt wr (w.heap.size + 1) (blF j)) (h3 : Below w.heap.size w wr) : RelBl w (.int .i64 ((j : Int) + 1)) (wr.setCell ⟨w.heap.size + 1, j, none⟩ (.int .i64 (-1))) :=
  ⟨j + 1, hj, by go_num, h1.only (Only.setCell j _) (by omega), by rw [← blF_next]; exact h2.set j _ hj, below_set h3 (by omega) _ _⟩
set_option maxHeartbeats 1000000 in
theorem blank_ok (w : World) : Calls Tryz.prog 61 #[] w fun e w' => e = .returned (.agg (tab fun _ => -1)) ∧ Below w.heap.size w w' := by
  have h0 : TabAt ((w.alloc (.cells Tryz.zeroCells75 75)).alloc (.cells Tryz.zeroCells75 75)) w.heap.size (fun _ => 0) ∧ TabAt ((w.alloc (.cells Tryz.zeroCells75 75)).alloc (.cells Tryz.zeroCells75 75)) (w.heap.size + 1) (blF 0) ∧ Below w.heap.size w ((w.alloc (.cells Tryz.zeroCells75 75)).alloc (.cells Tryz.zeroCells75 75)) := by
    rw [tab_zero]
    have hb := ((Below.refl w.heap.size w).alloc (Nat.le_refl _) (.cells (tab fun _ => 0) 75))
    refine ⟨?_, ?_, hb.alloc (by simp) _⟩
    · exact TabAt.below (w := w.alloc (.cells (tab fun _ => 0) 75)) (heap_alloc_new w _) ((Below.refl _ _).alloc (Nat.le_refl _) _)
    · have := heap_alloc_new (w.alloc (.cells (tab fun _ => 0) 75)) (.cells (tab fun _ => 0) 75)
      rw [show blF 0 = fun _ => 0 by funext c; simp [blF]]
      unfold TabAt
      simpa using this
  have H0 := Lib.hid h0
  clear h0
  go_enter Tryz.func61, Tryz.ntmps61
  go_wp2_with fail
  go_loopw [3] (fun i wr => RelBl w i wr) (fun i _ => 256 - (intOf i).toNat)
  case atStart => exact ⟨0, Nat.zero_le _, rfl, H0.out⟩
  case round =>
    clear H0
    obtain ⟨j, hj, rfl, h1, h2, h3⟩ := hrel
    have H1 := Lib.hid h1
    have H2 := Lib.hid h2
    have H3 := Lib.hid h3
    clear h1 h2 h3
    by_cases hlt : j < 256
    · have q1 : decide ((j : Int) < 256) = true := decide_eq_true (by omega)
      have c1 := H2.out.cell j hlt
      have f1 := H2.out.free j
      go_wp2_with fail
      go_roundw
      case rel => exact relBl_next hlt H1.out H2.out H3.out
      case measure => simp [intOf]; omega
    · obtain rfl : j = 256 := by omega
      have H4 := Lib.hid (H2.out.ext (f' := fun _ => -1) (fun c hc => if_pos hc))
      clear H2
      go_wp2_with (first
        | (refine wpList_load_tab rfl (.tmp 1) rfl (w.heap.size + 1) rfl (fun _ => -1) H4.out ?_)
        | (refine wpList_store_tab rfl (.tmp 0) (.tmp 9) rfl w.heap.size rfl (fun _ => -1) rfl _ H1.out ?_))
      have H5 := Lib.hid (H1.out.setCells (f' := fun _ => -1))
      have H6 := Lib.hid (below_setCells H3.out (Nat.le_refl _) (tabL fun _ => -1) 0)
      clear H1 H3 H4
      generalize World.setCells wr w.heap.size 0 (tabL fun _ => -1) = w5 at *
      refine bodyPost_ret (results_tab rfl _ _ w.heap.size _ rfl H5.out) rfl ?_
      exact ⟨rfl, H6.out⟩
theorem not_empty {s : ByteArray} (h0 : ¬ s.size = 0) : (!s.toList.isEmpty) = true := by
  have hne : s.toList ≠ [] := by
    rw [ByteArray.toList_eq]
    intro e
    have h := congrArg List.length e
    rw [Array.length_toList] at h
    exact h0 h
  simp [hne]
/-- the characters of an alphabet as a string -/
def spS (s : ByteArray) : ByteArray := if s.size = 0 then bstr (List.range 128) else s
theorem cods_bstr (l : List Nat) (h : ∀ x ∈ l, x < 256) : cods (bstr l) = l := by
  unfold cods bstr
  rw [List.toList_toArray, List.map_map]
  conv => rhs; rw [← List.map_id l]
  apply List.map_congr_left
  intro x hx
  have := h x hx
  simp [UInt8.toNat_ofNat']
  omega
theorem cods_nil {s : ByteArray} : cods s = [] ↔ s.size = 0 := by
  rw [← List.length_eq_zero_iff, cods_length]
theorem spS_cods (s : ByteArray) : cods (spS s) = sp (cods s) := by
  unfold spS sp
  by_cases h : s.size = 0
  · rw [if_pos h, if_pos (cods_nil.2 h), cods_bstr _ (fun x hx => by have : x < 128 := by simpa using hx
                                                                     omega)]
  · rw [if_neg h, if_neg (fun e => h (cods_nil.1 e))]
def rg (j : Nat) : List Nat := (List.range 128).map fun c => if c < j then c else 0
theorem rg_length (j : Nat) : (rg j).length = 128 := by simp [rg]
theorem rg_all : rg 128 = List.range 128 := by decide
def RgAt (w : World) (g : Nat) (j : Nat) : Prop := w.heap[g]? = some (.cells (u8s (rg j)).toArray 100 (0, 0))
theorem rg_get (j c : Nat) (h : c < 128) : (u8s (rg j))[c]? = some (.int .u8 ((if c < j then c else 0 : Nat) : Int)) := by simp [u8s, rg, h]
theorem RgAt.cell {w : World} {g j : Nat} (h : RgAt w g j) (c : Nat) (hc : c < 128) : w.cell? ⟨g, c, none⟩ = some (.int .u8 ((if c < j then c else 0 : Nat) : Int)) := cell_of_list h (rg_get j c hc)
theorem RgAt.free {w : World} {g j : Nat} (h : RgAt w g j) (c : Nat) : w.frozen? ⟨g, c, none⟩ = false := frozen_of_row w g c _ _ h
theorem RgAt.set {w : World} {g j : Nat} (h : RgAt w g j) (hj : j < 128) : RgAt (w.setCell ⟨g, j, none⟩ (.int .u8 (j : Nat))) g (j + 1) := by
  have := heap_setCell_same w g j _ _ (.int .u8 (j : Nat)) h
  unfold RgAt
  rw [this]
  congr 2
  simp only [List.setIfInBounds_toArray]
  congr 1
  apply List.ext_getElem?
  intro c
  rw [List.getElem?_set]
  have hl : ∀ j, (u8s (rg j)).length = 128 := fun j => by simp [u8s, rg]
  rcases Nat.lt_or_ge c 128 with hc | hc
  · rw [rg_get _ c hc, rg_get _ c hc, hl]
    by_cases e : j = c
    · subst e; simp [hj]
    · rw [if_neg e]
      by_cases e2 : c < j
      · rw [if_pos e2, if_pos (by omega)]
      · rw [if_neg e2, if_neg (by omega)]
  · rw [List.getElem?_eq_none (by rw [hl]; exact hc), List.getElem?_eq_none (by rw [hl]; exact hc), hl, if_neg (by omega)]
theorem RgAt.data {w : World} {g : Nat} (h : RgAt w g 128) : SlAt w (.slice (some ⟨g, 0, none⟩) 128 128) (List.range 128) :=
  .inl ⟨g, 0, 128, rfl, ⟨fun i hi => by
    have hi : i < 128 := by simpa using hi
    rw [Nat.zero_add, h.cell i hi, if_pos hi, range_getD 128 i hi], fun i => by
    rw [List.getD_eq_getElem?_getD]
    rcases Nat.lt_or_ge i 128 with hi | hi
    · rw [List.getElem?_range hi]; show i < 256; omega
    · rw [List.getElem?_eq_none (by simpa using hi)]; decide⟩⟩
theorem rg_zero : Tryz.zeroCells100 = (u8s (rg 0)).toArray := by kernel_rfl
def RelRg (w : World) (i : Value) (wr : World) : Prop := ∃ j : Nat, j ≤ 128 ∧ i = .int .i64 j ∧ RgAt wr w.heap.size j ∧ Below w.heap.size w wr
set_option maxHeartbeats 1000000 in
theorem spelled_ok (s : ByteArray) (w : World) : Calls Tryz.prog 49 #[.string s] w fun e w' => e = .returned (.string (spS s)) ∧ Below w.heap.size w w' := by
  by_cases h0 : s.size = 0
  · obtain rfl : s = ⟨#[]⟩ := by
      apply ByteArray.ext
      exact Array.eq_empty_of_size_eq_zero h0
    have h1 : RgAt (w.alloc (.cells Tryz.zeroCells100 100)) w.heap.size 0 := by
      rw [rg_zero]
      exact heap_alloc_new _ _
    have H1 := Lib.hid h1
    have H2 := Lib.hid ((Below.refl w.heap.size w).alloc (Nat.le_refl _) (.cells Tryz.zeroCells100 100))
    clear h1 h0
    go_enter Tryz.func49, Tryz.ntmps49
    go_wp2_with fail
    go_loopw [8] (fun i wr => RelRg w i wr) (fun i _ => 128 - (intOf i).toNat)
    case atStart => exact ⟨0, Nat.zero_le _, rfl, H1.out, H2.out⟩
    case round =>
      clear H1 H2
      obtain ⟨j, hj, rfl, h1, h2⟩ := hrel
      have H1 := Lib.hid h1
      have H2 := Lib.hid h2
      clear h1 h2
      by_cases hlt : j < 128
      · have q1 : decide ((j : Int) < 128) = true := decide_eq_true (by omega)
        have c1 := H1.out.cell j hlt
        have f1 := H1.out.free j
        have hw8 : ((j : Int) % 256) = j := by omega
        go_wp2_with fail
        go_roundw
        case rel => exact ⟨j + 1, hlt, by go_num, H1.out.set hlt, below_set H2.out (Nat.le_refl _) _ _⟩
        case measure => simp [intOf]; omega
      · obtain rfl : j = 128 := by omega
        have cs := conv_sl wr _ _ (H1.out.data)
        go_wp2_with fail
        go_ret
        exact ⟨rfl, H2.out⟩
  · have hs : spS s = s := if_neg h0
    rw [hs]
    have q1 := not_empty h0
    clear h0
    go_enter Tryz.func49, Tryz.ntmps49
    go_wp2_with fail
    go_ret
    exact ⟨rfl, Below.refl _ _⟩
theorem isAl_no {l : List Nat} (i : Nat) (hi : i < l.length) (h : ¬ (l.getD i 0 < 128 ∧ (0 < i → l.getD (i - 1) 0 < l.getD i 0))) : isAl l = false := decide_eq_false fun h2 => h (h2 i hi)
def AlTo (l : List Nat) (k : Nat) : Prop := ∀ i, i < k → l.getD i 0 < 128 ∧ (0 < i → l.getD (i - 1) 0 < l.getD i 0)
theorem alTo_next {l : List Nat} {k : Nat} (h : AlTo l k) (h1 : l.getD k 0 < 128 ∧ (0 < k → l.getD (k - 1) 0 < l.getD k 0)) : AlTo l (k + 1) := fun i hi => by
  by_cases e : i = k
  · subst e; exact h1
  · exact h i (by omega)
theorem alTo_all {l : List Nat} (h : AlTo l l.length) : isAl l = true := decide_eq_true h
theorem bdn {B : Nat} {a w : World} (h : Below B a w) (n : Nat) : Below B a (w.drewN n) := h.trans ⟨rfl, rfl, rfl, Nat.le_refl _, fun _ _ => rfl⟩
set_option maxHeartbeats 2000000 in
theorem isAlphabet_ok (s : ByteArray) (w : World) (hs : s.size ≤ 9223372036854775807) :
    Calls Tryz.prog 34 #[.string s] w fun e w' => e = .returned (.bool (isAl (cods s))) ∧ Below w.heap.size w w' := by
  have hlen := Lib.hid (cods_length s)
  have hat := Lib.hid (cods_at s)
  go_enter Tryz.func34, Tryz.ntmps34
  go_wp2_with fail
  go_loopw [6] (fun i wr => ∃ k : Nat, k ≤ s.size ∧ i = .int .i64 k ∧ AlTo (cods s) k ∧ Below w.heap.size w wr) (fun i _ => s.size - (intOf i).toNat)
  case atStart => exact ⟨0, Nat.zero_le _, rfl, (fun i h => by omega), Below.refl _ _⟩
  case round =>
    obtain ⟨k, hk, rfl, hall, hbl⟩ := hrel
    have HA := Lib.hid hall
    have HB := Lib.hid hbl
    clear hall hbl
    by_cases hlt : k < s.size
    · have q1 : decide ((k : Int) < (s.size : Int)) = true := decide_eq_true (by omega)
      have q5 : (k : Int) < (s.size : Int) := by omega
      have q6 : (0 : Int) ≤ (k : Int) := by omega
      obtain ⟨x, hx⟩ : ∃ x, (cods s).getD k 0 = x := ⟨_, rfl⟩
      have e : (s[k]'hlt).toNat = x := (hat.out k hlt).trans hx
      have HX := Lib.hid hx
      clear hx
      by_cases h8 : 128 ≤ x
      · have q2 : decide ((128 : Int) ≤ (x : Int)) = true := decide_eq_true (by omega)
        have HN := Lib.hid (isAl_no k (by rw [hlen.out]; exact hlt) (by rw [HX.out]; omega))
        clear h8
        go_wp2_with fail
        go_quiet (fail)
        go_wp2_with fail
        go_ret
        exact ⟨by rw [HN.out]; rfl, bdn HB.out _⟩
      have q2 : decide ((128 : Int) ≤ (x : Int)) = false := decide_eq_false (by omega)
      by_cases hk0 : k = 0
      · subst hk0
        have HR := Lib.hid (alTo_next HA.out ⟨by rw [HX.out]; omega, fun h => by omega⟩)
        go_wp2_with fail
        go_quiet (fail)
        go_wp2_with fail
        go_roundw
        case rel => exact ⟨1, hlt, rfl, HR.out, bdn HB.out _⟩
        case measure => simp [intOf]; omega
      obtain ⟨m, rfl⟩ : ∃ m, k = m + 1 := ⟨k - 1, by omega⟩
      obtain ⟨y, hy⟩ : ∃ y, (cods s).getD m 0 = y := ⟨_, rfl⟩
      have e2 : (s[m]'(by omega)).toNat = y := (hat.out m (by omega)).trans hy
      have HY := Lib.hid hy
      have q7 : (0 : Int) ≤ (m : Int) := by omega
      have q8 : (m : Int) < (s.size : Int) := by omega
      have q9 : decide ((0 : Int) < ((m + 1 : Nat) : Int)) = true := decide_eq_true (by omega)
      have q10 : ((m + 1 : Nat) : Int) - 1 = (m : Int) := by omega
      clear hy hk0
      by_cases hxy : x ≤ y
      · have q3 : decide (x ≤ y) = true := decide_eq_true hxy
        have HN := Lib.hid (isAl_no (m + 1) (by rw [hlen.out]; exact hlt) (by rw [HX.out, Nat.add_sub_cancel, HY.out]; omega))
        clear h8
        go_wp2_with fail
        go_quiet (fail)
        go_wp2_with fail
        go_ret
        exact ⟨by rw [HN.out]; rfl, bdn HB.out _⟩
      · have q3 : decide (x ≤ y) = false := decide_eq_false hxy
        have HR := Lib.hid (alTo_next HA.out ⟨by rw [HX.out]; omega, fun h => by rw [HX.out, Nat.add_sub_cancel, HY.out]; omega⟩)
        clear h8
        go_wp2_with fail
        go_quiet (fail)
        go_wp2_with fail
        go_roundw
        case rel => exact ⟨m + 1 + 1, hlt, by go_num, HR.out, bdn HB.out _⟩
        case measure => simp [intOf]; omega
    · obtain rfl : k = s.size := by omega
      have q1 : decide ((s.size : Int) < (s.size : Int)) = false := decide_eq_false (by omega)
      have HN := Lib.hid (alTo_all (l := cods s) (by rw [hlen.out]; exact HA.out))
      clear HA
      go_wp2_with fail
      go_ret
      exact ⟨by rw [HN.out]; rfl, HB.out⟩
end Go.Proofs.YtbpfggkpfaobhaaGreat
