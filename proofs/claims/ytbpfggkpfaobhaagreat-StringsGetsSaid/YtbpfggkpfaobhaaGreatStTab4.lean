/-
  Package strings: characters.
-/
import Derived.Test.YtbpfggkpfaobhaaGreatStTab3
namespace Go.Proofs.YtbpfggkpfaobhaaGreat
open Go.RowKit Go.Shelf
set_option linter.unusedVariables false
set_option linter.unusedSimpArgs false
set_option maxRecDepth 100000

theorem tab_get (f : Nat → Int) (j : Nat) (h : j < 256) : (tab f)[j]? = some (.int .i64 (f j)) := by
  unfold tab
  rw [List.getElem?_toArray]
  exact tabL_get f j h
def RelCh (w : World) (g : Nat) (f : Nat → Int) (i : Value) (wr : World) : Prop := ∃ j : Nat, j ≤ 256 ∧ i = .int .i64 j ∧ TabAt wr w.heap.size (fun _ => 0) ∧ TabAt wr g (chGo f j) ∧ Below w.heap.size w wr
theorem chGo_upd {f : Nat → Int} (j : Nat) (n : Nat) (h : f j = (n : Int)) : upd (chGo f j) n j = chGo f (j + 1) := by
  funext c
  unfold upd
  show _ = if f j = (c : Int) then (j : Int) else chGo f j c
  rw [h]
  by_cases e : c = n
  · rw [if_pos e, if_pos (by omega)]
  · rw [if_neg e, if_neg (by omega)]
theorem chGo_zero (f : Nat → Int) : chGo f 0 = fun _ => -1 := by
  funext c
  rfl
theorem chGo_skip {f : Nat → Int} (j : Nat) (h : f j = -1) : chGo f (j + 1) = chGo f j := by
  funext c
  show (if f j = (c : Int) then (j : Int) else chGo f j c) = _
  rw [if_neg (by omega)]
set_option maxHeartbeats 4000000 in
theorem scharacters_ok (s : ByteArray) (al : Bool) (w : World) (hs : s.size ≤ 9223372036854775807) (hA : isAl (cods s) = true) :
    Calls Tryz.prog 35 #[.string s, .bool al] w fun e w' => e = .returned (.agg (tab fun u => chOf (cods s) (wdT (cods s) al) u)) ∧ Below w.heap.size w w' := by
  have HN := Lib.hid (fun w => snumbers_ok s al w hs hA)
  have HF := Lib.hid (fun (c : Nat) (h : numOf (cods s) (wdT (cods s) al) c ≠ -1) => nmo_fits hA al (nmo_mem h))
  show Calls Tryz.prog 35 #[.string s, .bool al] w fun e w' => e = .returned (.agg (tab (chGo (numOf (cods s) (wdT (cods s) al)) 256))) ∧ Below w.heap.size w w'
  generalize numOf (cods s) (wdT (cods s) al) = f at *
  obtain ⟨T, hT⟩ : ∃ T, chGo f 256 = T := ⟨_, rfl⟩
  rw [hT]
  have HT := Lib.hid hT
  clear hT
  have T0 := Lib.hid (tab_new w)
  have B0 := Lib.hid ((Below.refl w.heap.size w).alloc (Nat.le_refl _) (.cells Tryz.zeroCells75 75))
  clear hA hs
  go_enter Tryz.func35, Tryz.ntmps35
  go_wp2_with fail
  refine (blank_ok _).mono ?_
  rintro e w2 ⟨rfl, hb1⟩
  have T2 := Lib.hid ((T0.out.below hb1).below ((Below.refl w2.heap.size w2).alloc (Nat.le_refl _) (.cells Tryz.zeroCells75 75)))
  have B2 := Lib.hid ((B0.out.trans (hb1.mono B0.out.size)).alloc (Nat.le_trans B0.out.size hb1.size) (.cells Tryz.zeroCells75 75))
  have hlt2 : w.heap.size < w2.heap.size := by have := T0.out.lt; have := hb1.size; omega
  clear hb1 T0 B0
  have hmark : True := trivial
  go_wp2_with (clear hmark; refine wpList_store_tab rfl (.tmp 5) (.tmp 8) rfl w2.heap.size rfl (fun _ => -1) rfl _ (tab_new w2) ?_)
  have T3 := Lib.hid ((tab_new w2).setCells (f' := fun _ => -1))
  have T4 := Lib.hid (T2.out.other (g' := w2.heap.size) (by omega) (tabL fun _ => -1) 0)
  have B3 := Lib.hid (below_setCells B2.out (g := w2.heap.size) (by omega) (tabL fun _ => -1) 0)
  clear T2 B2
  generalize World.setCells (w2.alloc (.cells Tryz.zeroCells75 75)) w2.heap.size 0 (tabL fun _ => -1) = w3 at *
  generalize w2.heap.size = g at *
  go_wp2_with fail
  refine (HN.out w3).mono ?_
  rintro e w4 ⟨rfl, hb1⟩
  have T5 := Lib.hid (T3.out.below hb1)
  have T6 := Lib.hid (T4.out.below hb1)
  have B4 := Lib.hid (B3.out.trans (hb1.mono B3.out.size))
  clear hb1 T3 T4 B3 HN
  go_wp2_with fail
  go_loopw [12] (fun i wr => RelCh w g f i wr) (fun i _ => 256 - (intOf i).toNat)
  case atStart => exact ⟨0, Nat.zero_le _, rfl, T6.out, by rw [chGo_zero]; exact T5.out, B4.out⟩
  case round =>
    clear T5 T6 B4
    obtain ⟨j, hj, rfl, h1, h2, h3⟩ := hrel
    have H1 := Lib.hid h1
    have H2 := Lib.hid h2
    have H3 := Lib.hid h3
    clear h1 h2 h3
    by_cases hlt : j < 256
    · have r1 : decide ((j : Int) < 256) = true := decide_eq_true (by omega)
      obtain ⟨v, hv⟩ : ∃ v, f j = v := ⟨_, rfl⟩
      have HIX := Lib.hid (fun w : World => run_index_arr w 75 3 256 (tab f) j (.int .i64 v) Tryz.underlying75 sizeOf_int isAgg_int hlt (by rw [tab_get f j hlt, hv]))
      by_cases h1 : v = -1
      · subst h1
        have HS := Lib.hid (chGo_skip j hv)
        clear hv
        have hmark : True := trivial
        go_wp2_with (clear hmark; refine wpList_index rfl 75 (.tmp 11) (.tmp 12) rfl _ (HIX.out _) ?_)
        go_roundw
        case rel => exact ⟨j + 1, hlt, by go_num, H1.out, by rw [HS.out]; exact H2.out, H3.out⟩
        case measure => simp [intOf]; omega
      · obtain ⟨n, hn, _, hn8⟩ := HF.out j (by rw [hv]; exact h1)
        obtain rfl : v = (n : Int) := hv.symm.trans hn
        have HS := Lib.hid (chGo_upd j n hn)
        have c1 := H2.out.cell n (by omega)
        have f1 := H2.out.free n
        have q4 : ((n : Int) != -1) = true := by simp
        have q6 : (0 : Int) ≤ (n : Int) := by omega
        have q7 : (n : Int) < 256 := by omega
        have H4 := Lib.hid (H2.out.set n (j : Nat) (by omega))
        have H5 := Lib.hid (H1.out.only (Only.setCell (b := g) (w := wr) n (.int .i64 (j : Nat))) (show w.heap.size ≠ g by omega))
        have hbs : Below w.heap.size w (wr.setCell ⟨g, n, none⟩ (.int .i64 (j : Nat))) := below_set H3.out (by omega) n _
        have H6 := Lib.hid hbs
        clear hbs hv hn h1
        have hmark : True := trivial
        go_wp2_with (clear hmark; refine wpList_index rfl 75 (.tmp 11) (.tmp 12) rfl _ (HIX.out _) ?_)
        go_roundw
        case rel => exact ⟨j + 1, hlt, by go_num, H5.out, by rw [← HS.out]; exact H4.out, H6.out⟩
        case measure => simp [intOf]; omega
    · have hj6 : j = 256 := by omega
      have r1 : decide ((j : Int) < 256) = false := decide_eq_false (by omega)
      have H4 := Lib.hid (show TabAt wr g T by rw [← HT.out, ← hj6]; exact H2.out)
      have H5 := Lib.hid (H1.out.setCells (f' := T))
      have H6 := Lib.hid (below_setCells H3.out (Nat.le_refl _) (tabL T) 0)
      clear hj6 H2 HT
      go_wp2_with (first
        | (refine wpList_load_tab rfl (.tmp 5) rfl g rfl T H4.out ?_)
        | (refine wpList_store_tab rfl (.tmp 4) (.tmp 22) rfl w.heap.size rfl T rfl _ H1.out ?_))
      clear H1 H4 H3
      generalize World.setCells wr w.heap.size 0 (tabL T) = w7 at *
      refine bodyPost_ret (results_tab rfl _ _ w.heap.size _ rfl H5.out) rfl ?_
      exact ⟨rfl, H6.out⟩
end Go.Proofs.YtbpfggkpfaobhaaGreat
