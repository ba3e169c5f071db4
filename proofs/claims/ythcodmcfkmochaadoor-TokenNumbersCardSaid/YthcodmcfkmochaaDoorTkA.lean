/-
  The laws of package token: the document's examples ('awake').
-/
import Derived.Test.YthcodmcfkmochaaDoorTkU
import Derived.Lib.UnsafeStr
namespace Go.Proofs.YthcodmcfkmochaaDoor
open Go.RowKit
set_option linter.unusedVariables false
set_option linter.unusedSimpArgs false
set_option maxRecDepth 100000

def u8s (l : List Nat) : List Value := l.map fun n : Nat => Value.int .u8 n
theorem lit_sl (w : World) (l : List Nat) (cs : Array Value) (hc : (u8s l).toArray = cs) (n : Nat) (hn : n = l.length) : Sl (w.alloc (.cells cs 5)) (.slice (some ⟨w.heap.size, 0, none⟩) n n) l := by
  subst hc
  subst hn
  refine .inl ⟨w.heap.size, 0, l.length, rfl, fun i hi => ?_⟩
  rw [Nat.zero_add, cell_of_row _ _ _ _ _ _ (heap_alloc_new w _)]
  unfold u8s
  rw [List.getElem?_toArray, List.getElem?_map, List.getElem?_eq_getElem hi, List.getD_eq_getElem?_getD, List.getElem?_eq_getElem hi]
  rfl
theorem OwnT.shape {base : Nat} {w : World} {v : Value} {toks : List Tk} (h : OwnT base w v toks) : (v = .slice none 0 0 ∧ toks = []) ∨ ∃ g cap, v = .slice (some ⟨g, 0, none⟩) toks.length cap ∧ base ≤ g ∧ toks.length ≤ cap ∧ ∀ i, i < (tcells toks).length → w.cell? ⟨g, i, none⟩ = (tcells toks)[i]? := by
  have h0 : w.ownsRow base 30 4 v toks.length (tcells toks) := h
  rcases h0.2 with ⟨e, h1⟩ | ⟨g, cap, cur, hv, hg, _, hc, _⟩
  · exact .inl ⟨e, List.length_eq_zero_iff.1 h1⟩
  · subst hv
    exact .inr ⟨g, cap, rfl, hg, hc, fun i hi => h0.cellAt i (by have := tcells_length toks; omega)⟩
theorem conv_mark (w : World) (cs : Array Value) (n : Nat) : (convert 24 24 (.slice (some ⟨w.heap.size, 0, none⟩) n n)).run Tryd.prog (w.alloc (.cells cs 5)) = .ok (.slice (some ⟨w.heap.size, 0, none⟩) n n) ((w.alloc (.cells cs 5)).freeze ⟨w.heap.size, cs.size, none⟩ 1) := by
  simp [convert, run_underlying Tryd.underlying24, run_underlying Tryd.underlying5, markStringish]
  have e : (w.alloc (.cells cs 5)).shape? w.heap.size = some (5, cs.size) := by
    unfold World.shape?
    rw [heap_alloc_new]
  rw [e]
  rfl
theorem cell_freeze (w : World) (a p : Addr) (n : Nat) : (w.freeze a n).cell? p = w.cell? p := by
  unfold World.freeze
  split
  · rfl
  · unfold World.cell?
    simp only [Array.getElem?_modify]
    by_cases h : a.block = p.block
    · rw [if_pos h]
      cases hh : w.heap[p.block]? with
      | none => rfl
      | some o => cases o <;> rfl
    · rw [if_neg h]
theorem conv_lit (w : World) (l : List Nat) (cs : Array Value) (hc : (u8s l).toArray = cs) (n : Nat) (hn : n = l.length) : ∃ w1, (convert 24 24 (.slice (some ⟨w.heap.size, 0, none⟩) n n)).run Tryd.prog (w.alloc (.cells cs 5)) = .ok (.slice (some ⟨w.heap.size, 0, none⟩) n n) w1 ∧ Sl w1 (.slice (some ⟨w.heap.size, 0, none⟩) n n) l ∧ Below w.heap.size w w1 := by
  refine ⟨_, conv_mark w cs n, ?_, Lib.below_freeze ((Below.refl _ _).alloc (Nat.le_refl _) _) (Nat.le_refl _) _⟩
  rcases lit_sl w l cs hc n hn with ⟨g, o, cap, e, hd⟩ | h
  · exact .inl ⟨g, o, cap, e, fun i hi => (cell_freeze _ _ _ _).trans (hd i hi)⟩
  · exact .inr h
def exA : List Nat := [65, 32, 58, 58, 61, 32, 45, 53, 32, 45, 45, 32, 120]
def exT : List Tk := [⟨1, ⟨#[65]⟩, 0, 0⟩, ⟨3, ⟨#[58, 58, 61]⟩, 0, 2⟩, ⟨2, ⟨#[]⟩, -5, 6⟩]
theorem ex_one : (scF (bstr exA)).l = exT ∧ (scF (bstr exA)).p = 13 ∧ (scF (bstr exA)).e = 0 := ⟨by kernel_rfl, by kernel_rfl, by kernel_rfl⟩
theorem ex_two : (scF (bstr [97, 45])).l = [] ∧ (scF (bstr [97, 45])).p = 0 ∧ (scF (bstr [97, 45])).e = 6 := ⟨by kernel_rfl, by kernel_rfl, by kernel_rfl⟩
theorem ex_up : (isWd ⟨#[65, 45, 98]⟩ && isUp (tAt (cods ⟨#[65, 45, 98]⟩) 0)) = true ∧ (isWd ⟨#[97]⟩ && isLo (tAt (cods ⟨#[97]⟩) 0)) = true := by decide
set_option maxHeartbeats 4000000 in
theorem awake_ok (w : World) (hgl : Gl w) : Calls Tryd.prog 7 #[] w fun e w' => e = .returned (.bool true) ∧ Below w.heap.size w w' := by
  have h1 := fun (w1 : World) (v : Value) (h : Sl w1 v exA) (g : Gl w1) => scan_ok w1 v exA h (by decide) (by decide) g
  rw [ex_one.1, ex_one.2.1, ex_one.2.2] at h1
  have H1 := Lib.hid h1
  have h2 := fun (w1 : World) (v : Value) (h : Sl w1 v [97, 45]) (g : Gl w1) => scan_ok w1 v [97, 45] h (by decide) (by decide) g
  rw [ex_two.1, ex_two.2.1, ex_two.2.2] at h2
  have H2 := Lib.hid h2
  have h3 := fun (w1 : World) (g : Gl w1) => upper_ok ⟨#[65, 45, 98]⟩ w1 g (by decide)
  rw [ex_up.1] at h3
  have H3 := Lib.hid h3
  have h4 := fun (w1 : World) (g : Gl w1) => lower_ok ⟨#[97]⟩ w1 g (by decide)
  rw [ex_up.2] at h4
  have H4 := Lib.hid h4
  obtain ⟨w0, hcv, hs0, hb0⟩ := conv_lit w exA _ rfl 13 rfl
  rw [show (u8s exA).toArray = #[Value.int .u8 65, .int .u8 32, .int .u8 58, .int .u8 58, .int .u8 61, .int .u8 32, .int .u8 45, .int .u8 53, .int .u8 32, .int .u8 45, .int .u8 45, .int .u8 32, .int .u8 120] from rfl] at hcv
  have HB0 := Lib.hid hb0
  have HS0 := Lib.hid hs0
  have HGL := Lib.hid (hgl.below hb0)
  clear h1 h2 h3 h4 hb0 hs0 hgl
  go_enter Tryd.func7, Tryd.ntmps7
  go_wp2_with fail
  refine (H1.out _ _ HS0.out HGL.out).mono ?_
  rintro e w1 ⟨tv, rfl, ho, hb⟩
  have HB1 := Lib.hid (HB0.out.trans (hb.mono HB0.out.size))
  have HG1 := Lib.hid (HGL.out.below hb)
  rcases ho.shape with ⟨_, he⟩ | ⟨g, cap, rfl, hg, hcap, hc⟩
  · exact absurd he (by decide)
  have hgw : g < w1.heap.size := World.block_lt_of_cell? w1 _ (hc 0 (by decide))
  have c0 := hc 0 (by decide)
  have c5 := hc 5 (by decide)
  have c10 := hc 10 (by decide)
  have c11 := hc 11 (by decide)
  have HC := Lib.hid (show ∀ w', Below w1.heap.size w1 w' → w'.cell? ⟨g, 0, none⟩ = some (.int .i64 1) ∧ w'.cell? ⟨g, 5, none⟩ = some (.string ⟨#[58, 58, 61]⟩) ∧ w'.cell? ⟨g, 10, none⟩ = some (.int .i64 (-5)) ∧ w'.cell? ⟨g, 11, none⟩ = some (.int .i64 6) from fun w' h => by
    have e := h.block g hgw
    exact ⟨(World.cell?_of_block (w := w1) (a := ⟨g, 0, none⟩) e).trans c0, (World.cell?_of_block (w := w1) (a := ⟨g, 5, none⟩) e).trans c5, (World.cell?_of_block (w := w1) (a := ⟨g, 10, none⟩) e).trans c10, (World.cell?_of_block (w := w1) (a := ⟨g, 11, none⟩) e).trans c11⟩)
  obtain ⟨w2, hcv2, hs2, hb2⟩ := conv_lit w1 [97, 45] _ rfl 2 rfl
  rw [show (u8s [97, 45]).toArray = #[Value.int .u8 97, .int .u8 45] from rfl] at hcv2
  have HS2 := Lib.hid hs2
  have HB2 := Lib.hid hb2
  have hl3 : exT.length = 3 := rfl
  rw [hl3]
  clear hb ho hg hc c0 c5 c10 c11 hb2 hs2 hcv HS0 HGL H1 hl3
  go_wp2_with fail
  refine (H2.out _ _ HS2.out (HG1.out.below HB2.out)).mono ?_
  rintro e w3 ⟨tv2, rfl, _, hb⟩
  have HB3 := Lib.hid (HB2.out.trans (hb.mono HB2.out.size))
  obtain ⟨c0, c5, c10, c11⟩ := HC.out w3 HB3.out
  have HG2 := Lib.hid (HG1.out.below HB3.out)
  have HB4 := Lib.hid (HB1.out.trans (HB3.out.mono HB1.out.size))
  clear hb hcv2 HS2 HB2 HB3 HC HG1 HB1 HB0 H2
  go_wp2_with fail
  refine (H3.out _ HG2.out).mono ?_
  rintro e w4 ⟨rfl, hb⟩
  have HG3 := Lib.hid (HG2.out.below hb)
  have HB5 := Lib.hid (HB4.out.trans (hb.mono HB4.out.size))
  clear hb c0 c5 c10 c11
  go_wp2_with fail
  refine (H4.out _ HG3.out).mono ?_
  rintro e w5 ⟨rfl, hb⟩
  have HB6 := Lib.hid (HB5.out.trans (hb.mono HB5.out.size))
  clear hb
  go_wp2_with fail
  go_ret
  exact ⟨rfl, HB6.out⟩
end Go.Proofs.YthcodmcfkmochaaDoor
