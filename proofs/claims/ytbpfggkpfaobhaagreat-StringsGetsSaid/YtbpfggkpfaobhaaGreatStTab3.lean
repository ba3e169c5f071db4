/-
  Package strings: hasAll, numbers, characters.
-/
import Derived.Test.YtbpfggkpfaobhaaGreatStTab2
import Derived.Deep.RegionHeld3
namespace Go.Proofs.YtbpfggkpfaobhaaGreat
open Go.RowKit Go.Shelf
set_option linter.unusedVariables false
set_option linter.unusedSimpArgs false
set_option maxRecDepth 100000

/-- is there a number for each? -/
def allOk (f : Nat → Int) (l : List Nat) : Bool := l.all fun c => f c != -1
theorem allOk_at {f : Nat → Int} {l : List Nat} (h : allOk f l = true) (i : Nat) (hi : i < l.length) : f (l.getD i 0) ≠ -1 := by
  unfold allOk at h
  rw [List.all_eq_true] at h
  have := h l[i] (List.getElem_mem hi)
  rw [List.getD_eq_getElem?_getD, List.getElem?_eq_getElem hi]
  simpa using this
theorem allOk_no {f : Nat → Int} {l : List Nat} (i : Nat) (hi : i < l.length) (h1 : f (l.getD i 0) = -1) : allOk f l = false := by
  cases hb : allOk f l with
  | false => rfl
  | true => exact absurd h1 (allOk_at hb i hi)
theorem allOk_all {f : Nat → Int} {l : List Nat} (h : ∀ i, i < l.length → f (l.getD i 0) ≠ -1) : allOk f l = true := by
  unfold allOk
  rw [List.all_eq_true]
  intro x hx
  obtain ⟨i, hi, rfl⟩ := List.getElem_of_mem hx
  have := h i hi
  rw [List.getD_eq_getElem?_getD, List.getElem?_eq_getElem hi] at this
  simpa using this
theorem box_tab (w : World) (f : Nat → Int) : (Instr.box 75 (.agg (tab f))).run Tryz.prog w = .ok (.pointer (some ⟨w.heap.size, 0, none⟩)) (w.alloc (.cells (tab f) 75)) := rfl
theorem sl_shape {w : World} {s : Value} {l : List Nat} (h : SlAt w s l) : ∃ a n cap, s = .slice a n cap ∧ l.length = n := by
  rcases h with ⟨g, o, cap, rfl, _⟩ | ⟨rfl, a, cap, rfl⟩
  · exact ⟨_, _, _, rfl, rfl⟩
  · exact ⟨_, _, _, rfl, rfl⟩
set_option maxHeartbeats 1000000 in
theorem shasAll_ok (w : World) (f : Nat → Int) (s : Value) (l : List Nat) (hs : SlAt w s l) (hl : l.length ≤ 9223372036854775807) :
    Calls Tryz.prog 36 #[.agg (tab f), s] w fun e w' => e = .returned (.bool (allOk f l)) ∧ Below w.heap.size w w' := by
  obtain ⟨a, n, cap, rfl, hn⟩ := sl_shape hs
  have hbx := fun w : World => box_tab w f
  have hb := (Below.refl w.heap.size w).alloc (Nat.le_refl _) (.cells (tab f) 75)
  have HT := Lib.hid (show TabAt (w.alloc (.cells (tab f) 75)) w.heap.size f from heap_alloc_new _ _)
  have HS := Lib.hid (hs.below hb)
  have HB := Lib.hid hb
  have HN := Lib.hid hn
  have hn63 : n ≤ 9223372036854775807 := by omega
  clear hs hb hl hn
  go_enter Tryz.func36, Tryz.ntmps36
  go_wp2_with fail
  clear hbx
  generalize w.alloc (.cells (tab f) 75) = w1 at *
  go_loop [9] (fun i => ∃ k : Nat, k ≤ n ∧ i = .int .i64 k ∧ ∀ j, j < k → f (l.getD j 0) ≠ -1) (fun i => n - (intOf i).toNat)
  case atStart => exact ⟨0, Nat.zero_le _, rfl, fun j h => by omega⟩
  case round =>
    obtain ⟨k, hk, rfl, hall⟩ := hrel
    have HA := Lib.hid hall
    clear hall
    by_cases hlt : k < n
    · have q1 : decide ((k : Int) < (n : Int)) = true := decide_eq_true (by omega)
      obtain ⟨g, o, rfl, hd⟩ := sl_ptr HS.out HN.out (by omega)
      have hc := hd.cell k (by rw [HN.out]; exact hlt)
      have hx8 := hd.byte k
      obtain ⟨x, hx⟩ : ∃ x, l.getD k 0 = x := ⟨_, rfl⟩
      rw [hx] at hc hx8
      have ht := HT.out.cell x hx8
      obtain ⟨v, hv⟩ : ∃ v, f x = v := ⟨_, rfl⟩
      rw [hv] at ht
      have HX := Lib.hid hx
      have HV := Lib.hid hv
      have q2 : (x : Int) < 256 := by omega
      have q3 : (0 : Int) ≤ (x : Int) := by omega
      clear hx hv hd
      by_cases h1 : v = -1
      · subst h1
        have HNo := Lib.hid (allOk_no (f := f) k (by rw [HN.out]; exact hlt) (by rw [HX.out]; exact HV.out))
        go_wp2_with fail
        go_ret
        exact ⟨by rw [HNo.out]; rfl, HB.out⟩
      · have q4 : (v == -1) = false := by simpa using h1
        have q5 : decide (v = -1) = false := decide_eq_false h1
        go_wp2_with fail
        go_round
        case rel => exact ⟨k + 1, hlt, by go_num, fun j hj => by
          by_cases e : j = k
          · subst e; rw [HX.out, HV.out]; exact h1
          · exact HA.out j (by omega)⟩
        case measure => simp [intOf]; omega
    · obtain rfl : k = n := by omega
      have q1 : decide ((k : Int) < (k : Int)) = false := decide_eq_false (by omega)
      have HNo := Lib.hid (allOk_all (f := f) (l := l) (fun i hi => HA.out i (by rw [HN.out] at hi; exact hi)))
      clear HA
      go_wp2_with fail
      go_ret
      exact ⟨by rw [HNo.out]; rfl, HB.out⟩
/-- the numbers of the first i characters -/
def numGo (l : List Nat) (by' : Bool) (i : Nat) : Nat → Int := fun c => if c ∈ l.take i then (if by' = true then ((l.idxOf c : Nat) : Int) else (c : Int)) else -1
theorem idxOf_at {l : List Nat} (h : isAl l = true) (i : Nat) (hi : i < l.length) : l.idxOf (l.getD i 0) = i := by
  have hm : l.getD i 0 ∈ l := by
    rw [List.getD_eq_getElem?_getD, List.getElem?_eq_getElem hi]
    exact List.getElem_mem hi
  obtain ⟨h1, h2⟩ := mem_idx hm
  rcases Nat.lt_trichotomy (l.idxOf (l.getD i 0)) i with h3 | h3 | h3
  · have := isAl_mono h i _ h3 hi
    omega
  · exact h3
  · have := isAl_mono h _ i h3 h1
    omega
theorem numGo_next {l : List Nat} (h : isAl l = true) (b : Bool) (i : Nat) (hi : i < l.length) : upd (numGo l b i) (l.getD i 0) (if b = true then (i : Int) else ((l.getD i 0 : Nat) : Int)) = numGo l b (i + 1) := by
  funext c
  unfold upd numGo
  have ht : l.take (i + 1) = l.take i ++ [l.getD i 0] := by
    rw [List.take_succ_eq_append_getElem hi]
    simp [List.getD_eq_getElem?_getD, hi]
  rw [ht]
  by_cases e : c = l.getD i 0
  · rw [if_pos e, if_pos (show c ∈ l.take i ++ [l.getD i 0] from List.mem_append.2 (.inr (List.mem_singleton.2 e))), e, idxOf_at h i hi]
  · rw [if_neg e]
    by_cases h2 : c ∈ l.take i
    · rw [if_pos h2, if_pos (show c ∈ l.take i ++ [l.getD i 0] from List.mem_append.2 (.inl h2))]
    · rw [if_neg h2, if_neg (show ¬ c ∈ l.take i ++ [l.getD i 0] from fun h3 => by
        rcases List.mem_append.1 h3 with h3 | h3
        · exact h2 h3
        · exact e (List.mem_singleton.1 h3))]
theorem numGo_all (l : List Nat) (k : Nat) : numGo (sp l) (decide (2 ^ k ≤ (sp l).getD ((sp l).length - 1) 0)) (sp l).length = numOf l k := by
  funext c
  unfold numGo numOf
  rw [List.take_length]
  by_cases h : c ∈ sp l
  · rw [if_pos h, if_pos h]
    by_cases h2 : 2 ^ k ≤ (sp l).getD ((sp l).length - 1) 0
    · rw [if_pos h2, if_pos (by simp only [decide_eq_true_eq]; exact h2)]
    · rw [if_neg h2, if_neg (by simp only [decide_eq_true_eq]; exact h2)]
  · rw [if_neg h, if_neg h]
theorem numGo_zero (l : List Nat) (b : Bool) : numGo l b 0 = fun _ => -1 := by
  funext c
  simp [numGo]
theorem TabAt.other {w : World} {g g' : Nat} {f : Nat → Int} (h : TabAt w g f) (hg : g ≠ g') (vs : List Value) (o : Nat) : TabAt (w.setCells g' o vs) g f := (heap_setCells_other g' g hg vs o w).trans h
theorem tab_new (w : World) : TabAt (w.alloc (.cells Tryz.zeroCells75 75)) w.heap.size (fun _ => 0) := by
  rw [tab_zero]
  exact heap_alloc_new _ _
theorem upd_upd (f : Nat → Int) (x : Nat) (a b : Int) : upd (upd f x a) x b = upd f x b := by
  funext c
  unfold upd
  split <;> rfl
def RelNum (w : World) (g : Nat) (l : List Nat) (b : Bool) (i : Value) (wr : World) : Prop := ∃ j : Nat, j ≤ l.length ∧ i = .int .i64 j ∧ TabAt wr w.heap.size (fun _ => 0) ∧ TabAt wr g (numGo l b j) ∧ Below w.heap.size w wr
set_option maxHeartbeats 4000000 in
theorem snumbers_ok (s : ByteArray) (al : Bool) (w : World) (hs : s.size ≤ 9223372036854775807) (hA : isAl (cods s) = true) :
    Calls Tryz.prog 46 #[.string s, .bool al] w fun e w' => e = .returned (.agg (tab (numOf (cods s) (wdT (cods s) al)))) ∧ Below w.heap.size w w' := by
  obtain ⟨m, hm, hm7, hl⟩ := spS_size hA
  have hk8 := wdT_le (cods s) al
  have HW := Lib.hid (fun w => swidth_ok s al w hs)
  have HS := Lib.hid (fun w => spelled_ok s w)
  have hall := numGo_all (cods s) (wdT (cods s) al)
  rw [← hall]
  have hsp := spS_cods s
  have hat := cods_at (spS s)
  have hlen := cods_length (spS s)
  have hal := sp_al hA
  rw [hsp] at hat hlen
  clear hall hA hsp
  generalize spS s = s2 at *
  generalize wdT (cods s) al = k at *
  generalize sp (cods s) = l at *
  rw [hlen, hm, Nat.add_sub_cancel]
  obtain ⟨x, hx⟩ : ∃ x, l.getD m 0 = x := ⟨_, rfl⟩
  rw [hx]
  have q4 : m < s2.size := by omega
  have e1 : (s2[m]'q4).toNat = x := (hat m q4).trans hx
  have hx8 : x < 128 := by rw [← hx]; exact (isAl_at hal m (by omega)).1
  obtain ⟨P, hP⟩ : ∃ P, 2 ^ k = P := ⟨_, rfl⟩
  have hP8 : P ≤ 256 := by rw [← hP]; exact pow_le hk8
  rw [hP]
  obtain ⟨by', hby⟩ : ∃ by', decide (P ≤ x) = by' := ⟨_, rfl⟩
  have q8 : decide ((P : Int) ≤ (x : Int)) = by' := by rw [← hby, decide_eq_decide]; omega
  rw [hby]
  have T0 := Lib.hid (tab_new w)
  have B0 := Lib.hid ((Below.refl w.heap.size w).alloc (Nat.le_refl _) (.cells Tryz.zeroCells75 75))
  have HAT := Lib.hid hat
  have HLEN := Lib.hid hlen
  have HAL := Lib.hid hal
  have HX := Lib.hid hx
  clear hat hlen hal hx hl
  go_enter Tryz.func46, Tryz.ntmps46
  go_wp2_with fail
  refine (blank_ok _).mono ?_
  rintro e w1 ⟨rfl, hb1⟩
  have T1 := Lib.hid (T0.out.below hb1)
  have B1 := Lib.hid (B0.out.trans (hb1.mono B0.out.size))
  clear hb1 T0 B0
  go_wp2_with fail
  refine (HS.out w1).mono ?_
  rintro e w2 ⟨rfl, hb1⟩
  have T2 := Lib.hid ((T1.out.below hb1).below ((Below.refl w2.heap.size w2).alloc (Nat.le_refl _) (.cells Tryz.zeroCells75 75)))
  have B2 := Lib.hid ((B1.out.trans (hb1.mono B1.out.size)).alloc (Nat.le_trans B1.out.size hb1.size) (.cells Tryz.zeroCells75 75))
  have hlt2 : w.heap.size < w2.heap.size := by have := T1.out.lt; have := hb1.size; omega
  clear hb1 T1 B1 HS
  go_wp2_with (refine wpList_store_tab rfl (.tmp 5) (.tmp 9) rfl w2.heap.size rfl (fun _ => -1) rfl _ (tab_new w2) ?_)
  have T3 := Lib.hid ((tab_new w2).setCells (f' := fun _ => -1))
  have T4 := Lib.hid (T2.out.other (g' := w2.heap.size) (by omega) (tabL fun _ => -1) 0)
  have B3 := Lib.hid (below_setCells B2.out (g := w2.heap.size) (by omega) (tabL fun _ => -1) 0)
  clear T2 B2
  generalize World.setCells (w2.alloc (.cells Tryz.zeroCells75 75)) w2.heap.size 0 (tabL fun _ => -1) = w3 at *
  generalize w2.heap.size = g at *
  have q1 : (0 : Int) ≤ (m : Int) := by omega
  have q2 : (m : Int) < (s2.size : Int) := by omega
  have q3 : (s2.size : Int) - 1 = (m : Int) := by omega
  have hs2 : (s2.size : Int) ≤ 9223372036854775807 := by omega
  have q5 : IntKind.i64.wrap (m : Int) = (m : Int) := by rw [IntKind.wrap_i64]; omega
  have HM := Lib.hid hm
  clear hm
  have q6 : IntKind.i64.wrap (x : Int) = (x : Int) := by rw [IntKind.wrap_i64]; omega
  have q7 : IntKind.i64.wrap ((2 : Int) ^ k) = (P : Int) := by
    have : ((2 : Int) ^ k) = (P : Int) := by rw [← hP, Int.natCast_pow]; rfl
    rw [this, IntKind.wrap_i64]
    omega
  go_wp2_with fail
  have T3d := Lib.hid (show TabAt w3.drew g (fun _ => -1) from T3.out)
  have T4d := Lib.hid (show TabAt w3.drew w.heap.size (fun _ => 0) from T4.out)
  have B3d := Lib.hid B3.out.drew
  clear T3 T4 B3
  go_region_held3 (fun _ => True) (first | trivial) (first | (go_at_call 23; refine (HW.out _).mono ?_; rintro e w4 ⟨rfl, hb4⟩; have T5 := Lib.hid (T3d.out.below hb4); have T6 := Lib.hid (T4d.out.below hb4); have B4 := Lib.hid (B3d.out.trans (hb4.mono B3d.out.size)); clear hb4))
  all_goals
    clear T3d T4d B3d
    generalize w4 = w5 at *
    go_wp2_with fail
    go_loopw [25] (fun i wr => RelNum w g l by' i wr) (fun i _ => s2.size - (intOf i).toNat)
    case atStart => exact ⟨0, Nat.zero_le _, rfl, T6.out, by rw [numGo_zero]; exact T5.out, B4.out⟩
    case round =>
      clear T5 T6 B4
      obtain ⟨j, hj, rfl, h1, h2, h3⟩ := hrel
      rw [HLEN.out] at hj
      have H1 := Lib.hid h1
      have H2 := Lib.hid h2
      have H3 := Lib.hid h3
      clear h1 h2 h3
      by_cases hlt : j < s2.size
      · have r1 : decide ((j : Int) < (s2.size : Int)) = true := decide_eq_true (by omega)
        have r2 : (0 : Int) ≤ (j : Int) := by omega
        have r3 : (j : Int) < (s2.size : Int) := by omega
        have r4 : IntKind.i64.wrap (j : Int) = (j : Int) := by rw [IntKind.wrap_i64]; omega
        obtain ⟨y, hy⟩ : ∃ y, l.getD j 0 = y := ⟨_, rfl⟩
        have e2 : (s2[j]'hlt).toNat = y := (HAT.out j hlt).trans hy
        have hy8 : y < 128 := by rw [← hy]; exact (isAl_at HAL.out j (by rw [HLEN.out]; exact hlt)).1
        have r5 : IntKind.i64.wrap (y : Int) = (y : Int) := by rw [IntKind.wrap_i64]; omega
        have r6 : (0 : Int) ≤ (y : Int) := by omega
        have r7 : (y : Int) < 256 := by omega
        have HY := Lib.hid hy
        have c1 := H2.out.cell y (by omega)
        have f1 := H2.out.free y
        clear hy
        go_wp2_with fail
        go_region
        have H4 := Lib.hid (show TabAt (wr.setCell ⟨g, y, none⟩ (.int .i64 (y : Nat))).drew g (upd (numGo l by' j) y (y : Nat)) from H2.out.set y _ (by omega))
        have t5 := H1.out.only (Only.setCell (b := g) (w := wr) y (.int .i64 (y : Nat))) (show w.heap.size ≠ g by omega)
        have H5 := Lib.hid (show TabAt (wr.setCell ⟨g, y, none⟩ (.int .i64 (y : Nat))).drew w.heap.size (fun _ => 0) from t5)
        clear t5
        have hbs : Below w.heap.size w (wr.setCell ⟨g, y, none⟩ (.int .i64 (y : Nat))) := below_set H3.out (by omega) y _
        have H6 := Lib.hid hbs.drew
        clear hbs
        have c2 := H4.out.cell y (by omega)
        have f2 := H4.out.free y
        clear H1 H2 H3 c1 f1
        generalize (wr.setCell ⟨g, y, none⟩ (.int .i64 (y : Nat))).drew = w6 at *
        have HNX := Lib.hid (numGo_next HAL.out by' j (by rw [HLEN.out]; exact hlt))
        rw [HY.out] at HNX
        cases by' with
        | true =>
          have H7 := Lib.hid (show TabAt (w6.setCell ⟨g, y, none⟩ (.int .i64 (j : Nat))) g (numGo l true (j + 1)) by
            have := H4.out.set y (j : Nat) (by omega)
            rw [upd_upd] at this
            rw [← HNX.out]
            exact this)
          have H8 := Lib.hid (H5.out.only (Only.setCell (b := g) y (.int .i64 (j : Nat))) (by omega))
          have H9 := Lib.hid (below_set H6.out (g := g) (by omega) y (.int .i64 (j : Nat)))
          clear H4 H5 H6 HNX
          go_wp2_with fail
          go_roundw
          case rel => exact ⟨j + 1, by rw [HLEN.out]; exact hlt, by go_num, H8.out, H7.out, H9.out⟩
          case measure => simp [intOf]; omega
        | false =>
          have H7 := Lib.hid (show TabAt w6 g (numGo l false (j + 1)) by
            rw [← HNX.out]
            exact H4.out)
          clear H4 HNX
          go_wp2_with fail
          go_roundw
          case rel => exact ⟨j + 1, by rw [HLEN.out]; exact hlt, by go_num, H5.out, H7.out, H6.out⟩
          case measure => simp [intOf]; omega
      · obtain rfl : j = s2.size := by omega
        have r1 : decide ((s2.size : Int) < (s2.size : Int)) = false := decide_eq_false (by omega)
        rw [← HLEN.out] at H2
        have H5 := Lib.hid (H1.out.setCells (f' := numGo l by' l.length))
        have H6 := Lib.hid (below_setCells H3.out (Nat.le_refl _) (tabL (numGo l by' l.length)) 0)
        go_wp2_with (first
          | (refine wpList_load_tab rfl (.tmp 5) rfl g rfl (numGo l by' l.length) H2.out ?_)
          | (refine wpList_store_tab rfl (.tmp 4) (.tmp 43) rfl w.heap.size rfl (numGo l by' l.length) rfl _ H1.out ?_))
        clear H1 H2 H3
        generalize World.setCells wr w.heap.size 0 (tabL (numGo l by' l.length)) = w7 at *
        refine bodyPost_ret (results_tab rfl _ _ w.heap.size _ rfl H5.out) rfl ?_
        exact ⟨by rw [show m + 1 = l.length by rw [HLEN.out, HM.out]], H6.out⟩
end Go.Proofs.YtbpfggkpfaobhaaGreat
