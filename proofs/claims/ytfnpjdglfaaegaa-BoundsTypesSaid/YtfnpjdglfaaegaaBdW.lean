/-
  The laws of package bounds: the document's examples.
-/
import Derived.Test.YtfnpjdglfaaegaaBdS
import Derived.Test.YtfnpjdglfaaegaaBdF
import Derived.Test.YtfnpjdglfaaegaaSpB
namespace Go.Proofs.Ytfnpjdglfaaegaa
open Go.RowKit Go.Shelf
set_option linter.unusedVariables false
set_option linter.unusedSimpArgs false
set_option maxRecDepth 100000

theorem CIn.len {B : Nat} {W : World} {c : CT} (h : CIn B W c) : c.cells.length = 6 := by
  obtain ⟨op, lo, hi, low, high, a, n, cap, ch, rfl⟩ := h.open
  rfl
/-- two constraints behind one another -/
theorem lin_two {W : World} {B g : Nat} {c0 c1 : CT} (h0 : CIn B W c0) (h1 : CIn B W c1) (hb : Bx W g (c0.cells ++ c1.cells).toArray 24) (hg : g < B) : LIn B W (some ⟨g, 0, none⟩) 2 2 (fun i => if i = 0 then c0 else c1) := by
  have l0 := h0.len
  have l1 := h1.len
  refine ⟨⟨Nat.le_refl _, by omega, (fun e => by cases e), fun _ => ⟨g, 0, rfl, hg, fun i hi j u hj => ?_⟩⟩, fun i hi => ?_⟩
  · refine hb.cell _ ?_
    rcases Nat.eq_zero_or_pos i with rfl | hi0
    · simp only [if_true] at hj
      have : j < 6 := by have := (List.getElem?_eq_some_iff.1 hj).1; omega
      rw [List.getElem?_toArray, show 0 + 0 * 6 + j = j by omega, List.getElem?_append_left (by omega)]
      exact hj
    · obtain rfl : i = 1 := by omega
      simp only [if_neg (by decide : ¬ (1 = 0))] at hj
      rw [List.getElem?_toArray, show 0 + 1 * 6 + j = j + 6 by omega, List.getElem?_append_right (by omega), l0, show j + 6 - 6 = j by omega]
      exact hj
  · show CIn B W (if i = 0 then c0 else c1)
    split
    · exact h0
    · exact h1
def sp1 (lo hi : Int) (low : Bool) : CT := .mk 1 lo hi low false none 0 0 (fun _ => .nil)
theorem sp1_in (B : Nat) (W : World) (lo hi : Int) (low : Bool) (h1 : I64 lo) (h2 : I64 hi) : CIn B W (sp1 lo hi low) :=
  ⟨⟨by unfold I64; omega, h1, h2⟩, ⟨Nat.le_refl _, by omega, fun _ => ⟨rfl, rfl⟩, fun h => absurd h (by omega)⟩, fun i hi => absurd hi (by omega)⟩
def exU (b : Nat) : CT := .mk 2 0 0 false false (some ⟨b, 0, none⟩) 2 2 (fun i => if i = 0 then sp1 0 7 false else sp1 9 9 false)
def exC (b c : Nat) : CT := .mk 4 0 0 false false (some ⟨c, 0, none⟩) 2 2 (fun i => if i = 0 then exU b else sp1 3 3 false)
theorem exC_sz (b c : Nat) : (exC b c).sz = 5 := by simp [exC, exU, sp1, CT.sz, sumN]
theorem exC_adm (b c : Nat) (n : Int) : adm (exC b c) 40 n = true ↔ ((0 ≤ n ∧ n ≤ 7) ∨ n = 9) ∧ n ≠ 3 := by
  simp [exC, exU, sp1, adm, anyN, allN]
  omega
def exL : List Rg := [(0, 2), (4, 7), (9, 9)]
theorem exL_bd : Bd exL := by simp [exL, Bd, I64]
theorem exL_rgt : rgt exL := by
  unfold exL
  rw [rgt_cons]
  refine ⟨by simp, by simp, ?_⟩
  rw [rgt_cons]
  exact ⟨by simp, by simp, rgt_one.2 (by simp)⟩
theorem exL_mem (n : Int) : mem exL n ↔ ((0 ≤ n ∧ n ≤ 7) ∨ n = 9) ∧ n ≠ 3 := by
  unfold exL
  rw [mem_cons, mem_cons, mem_one]
  simp only
  omega
theorem exL_of {r : List Rg} {b c : Nat} (h : Says r (fun x => mem wholeL x ∧ adm (exC b c) 40 x = true)) : r = exL :=
  h.eq (q := mem exL) ⟨exL_rgt, exL_bd, fun n _ => Iff.rfl⟩ fun n hn => by rw [exC_adm, exL_mem, wholeL_says.2.2 n hn]; simp
theorem exM_of {r : List Rg} (h : Says r (fun x => mem sizeL x ∧ adm (sp1 0 5 true) 40 x = true)) : r = [(0, 5)] :=
  h.eq (q := mem [(0, 5)]) ⟨rgt_one.2 (by simp), by simp [Bd, I64], fun n _ => Iff.rfl⟩ fun n hn => by
    rw [sizeL_mem n hn, mem_one]
    simp [sp1, adm]
theorem exE_of {r : List Rg} (h : Says r (mem exL)) : r = exL := h.eq (q := mem exL) ⟨exL_rgt, exL_bd, fun n _ => Iff.rfl⟩ fun n _ => Iff.rfl
theorem aw_tree (w : World) : ∃ W, ((((w).alloc (.cells #[.int .i64 1, .int .i64 0, .int .i64 7, .bool false, .bool false, .slice none 0 0, .int .i64 1, .int .i64 9, .int .i64 9, .bool false, .bool false, .slice none 0 0] 24)).alloc (.cells #[.int .i64 2, .int .i64 0, .int .i64 0, .bool false, .bool false, .slice (some ⟨w.heap.size, 0, none⟩) 2 2] 24)).alloc (.cells #[.int .i64 2, .int .i64 0, .int .i64 0, .bool false, .bool false, .slice (some ⟨w.heap.size, 0, none⟩) 2 2, .int .i64 1, .int .i64 3, .int .i64 3, .bool false, .bool false, .slice none 0 0] 24)).alloc (.cells #[.int .i64 4, .int .i64 0, .int .i64 0, .bool false, .bool false, .slice (some ⟨w.heap.size + 1 + 1, 0, none⟩) 2 2] 24) = W ∧ CIn W.heap.size W (exC w.heap.size (w.heap.size + 1 + 1)) ∧ Bx W (w.heap.size + 1 + 1 + 1) #[.int .i64 4, .int .i64 0, .int .i64 0, .bool false, .bool false, .slice (some ⟨w.heap.size + 1 + 1, 0, none⟩) 2 2] 24 ∧ Below w.heap.size w W := by
  have s1 : ((w).alloc (.cells #[.int .i64 1, .int .i64 0, .int .i64 7, .bool false, .bool false, .slice none 0 0, .int .i64 1, .int .i64 9, .int .i64 9, .bool false, .bool false, .slice none 0 0] 24)).heap.size = w.heap.size + 1 := by simp
  have s2 : (((w).alloc (.cells #[.int .i64 1, .int .i64 0, .int .i64 7, .bool false, .bool false, .slice none 0 0, .int .i64 1, .int .i64 9, .int .i64 9, .bool false, .bool false, .slice none 0 0] 24)).alloc (.cells #[.int .i64 2, .int .i64 0, .int .i64 0, .bool false, .bool false, .slice (some ⟨w.heap.size, 0, none⟩) 2 2] 24)).heap.size = w.heap.size + 1 + 1 := by simp
  have s3 : ((((w).alloc (.cells #[.int .i64 1, .int .i64 0, .int .i64 7, .bool false, .bool false, .slice none 0 0, .int .i64 1, .int .i64 9, .int .i64 9, .bool false, .bool false, .slice none 0 0] 24)).alloc (.cells #[.int .i64 2, .int .i64 0, .int .i64 0, .bool false, .bool false, .slice (some ⟨w.heap.size, 0, none⟩) 2 2] 24)).alloc (.cells #[.int .i64 2, .int .i64 0, .int .i64 0, .bool false, .bool false, .slice (some ⟨w.heap.size, 0, none⟩) 2 2, .int .i64 1, .int .i64 3, .int .i64 3, .bool false, .bool false, .slice none 0 0] 24)).heap.size = w.heap.size + 1 + 1 + 1 := by simp
  refine ⟨_, rfl, ?_, ?_, ?_⟩
  · have x1 := ((Bx.new w #[.int .i64 1, .int .i64 0, .int .i64 7, .bool false, .bool false, .slice none 0 0, .int .i64 1, .int .i64 9, .int .i64 9, .bool false, .bool false, .slice none 0 0] 24).alloc (.cells #[.int .i64 2, .int .i64 0, .int .i64 0, .bool false, .bool false, .slice (some ⟨w.heap.size, 0, none⟩) 2 2] 24)).alloc (.cells #[.int .i64 2, .int .i64 0, .int .i64 0, .bool false, .bool false, .slice (some ⟨w.heap.size, 0, none⟩) 2 2, .int .i64 1, .int .i64 3, .int .i64 3, .bool false, .bool false, .slice none 0 0] 24) |>.alloc (.cells #[.int .i64 4, .int .i64 0, .int .i64 0, .bool false, .bool false, .slice (some ⟨w.heap.size + 1 + 1, 0, none⟩) 2 2] 24)
    have x3 := (Bx.new (((w).alloc (.cells #[.int .i64 1, .int .i64 0, .int .i64 7, .bool false, .bool false, .slice none 0 0, .int .i64 1, .int .i64 9, .int .i64 9, .bool false, .bool false, .slice none 0 0] 24)).alloc (.cells #[.int .i64 2, .int .i64 0, .int .i64 0, .bool false, .bool false, .slice (some ⟨w.heap.size, 0, none⟩) 2 2] 24)) #[.int .i64 2, .int .i64 0, .int .i64 0, .bool false, .bool false, .slice (some ⟨w.heap.size, 0, none⟩) 2 2, .int .i64 1, .int .i64 3, .int .i64 3, .bool false, .bool false, .slice none 0 0] 24).alloc (.cells #[.int .i64 4, .int .i64 0, .int .i64 0, .bool false, .bool false, .slice (some ⟨w.heap.size + 1 + 1, 0, none⟩) 2 2] 24)
    rw [s2] at x3
    have hU : CIn (w.heap.size + 1) (((((w).alloc (.cells #[.int .i64 1, .int .i64 0, .int .i64 7, .bool false, .bool false, .slice none 0 0, .int .i64 1, .int .i64 9, .int .i64 9, .bool false, .bool false, .slice none 0 0] 24)).alloc (.cells #[.int .i64 2, .int .i64 0, .int .i64 0, .bool false, .bool false, .slice (some ⟨w.heap.size, 0, none⟩) 2 2] 24)).alloc (.cells #[.int .i64 2, .int .i64 0, .int .i64 0, .bool false, .bool false, .slice (some ⟨w.heap.size, 0, none⟩) 2 2, .int .i64 1, .int .i64 3, .int .i64 3, .bool false, .bool false, .slice none 0 0] 24)).alloc (.cells #[.int .i64 4, .int .i64 0, .int .i64 0, .bool false, .bool false, .slice (some ⟨w.heap.size + 1 + 1, 0, none⟩) 2 2] 24)) (exU w.heap.size) := ⟨⟨by unfold I64; omega, by unfold I64; omega, by unfold I64; omega⟩, lin_two (sp1_in _ _ 0 7 false (by unfold I64; omega) (by unfold I64; omega)) (sp1_in _ _ 9 9 false (by unfold I64; omega) (by unfold I64; omega)) x1 (Nat.lt_succ_self _)⟩
    refine ⟨⟨by unfold I64; omega, by unfold I64; omega, by unfold I64; omega⟩, lin_two (hU.below (Below.refl _ _) (by simp)) (sp1_in _ _ 3 3 false (by unfold I64; omega) (by unfold I64; omega)) x3 (by simp)⟩
  · have x4 := Bx.new ((((w).alloc (.cells #[.int .i64 1, .int .i64 0, .int .i64 7, .bool false, .bool false, .slice none 0 0, .int .i64 1, .int .i64 9, .int .i64 9, .bool false, .bool false, .slice none 0 0] 24)).alloc (.cells #[.int .i64 2, .int .i64 0, .int .i64 0, .bool false, .bool false, .slice (some ⟨w.heap.size, 0, none⟩) 2 2] 24)).alloc (.cells #[.int .i64 2, .int .i64 0, .int .i64 0, .bool false, .bool false, .slice (some ⟨w.heap.size, 0, none⟩) 2 2, .int .i64 1, .int .i64 3, .int .i64 3, .bool false, .bool false, .slice none 0 0] 24)) #[.int .i64 4, .int .i64 0, .int .i64 0, .bool false, .bool false, .slice (some ⟨w.heap.size + 1 + 1, 0, none⟩) 2 2] 24
    rw [s3] at x4
    exact x4
  · exact ((((Below.refl _ w).alloc (Nat.le_refl _) _).alloc (by simp) _).alloc (by simp; omega) _).alloc (by simp; omega) _
set_option maxHeartbeats 8000000 in
theorem awake12_ok (w : World) : Calls Try.prog 8 #[] w fun e w' => e = .returned (.bool true) ∧ Below w.heap.size w w' := by
  obtain ⟨W, hW, hin, hbx, hbel⟩ := aw_tree w
  have HW := Lib.hid hW
  have HIN := Lib.hid hin
  have HBX := Lib.hid hbx
  have HB0 := Lib.hid hbel
  obtain ⟨b2, hb2⟩ : ∃ b2, w.heap.size + 1 + 1 = b2 := ⟨_, rfl⟩
  obtain ⟨b3, hb3⟩ : ∃ b3, w.heap.size + 1 + 1 + 1 = b3 := ⟨_, rfl⟩
  have HBB := Lib.hid (And.intro hb2 hb3)
  clear hW hin hbx hbel hb2 hb3
  go_enter Try.func8, Try.ntmps8
  go_upto_region 3 with fail
  change Code.wp _ _ _ _ ((((w.alloc _).alloc _).alloc _).alloc _)
  rw [HW.out]
  rw [HBB.out.2] at HBX ⊢
  rw [HBB.out.1] at HBX HIN ⊢
  have HS := Lib.hid (show ∀ w', Below W.heap.size W w' → (w'.cell? ⟨b3, 0, none⟩ = some (.int .i64 4) ∧ w'.cell? ⟨b3, 1, none⟩ = some (.int .i64 0) ∧ w'.cell? ⟨b3, 2, none⟩ = some (.int .i64 0) ∧ w'.cell? ⟨b3, 3, none⟩ = some (.bool false) ∧ w'.cell? ⟨b3, 4, none⟩ = some (.bool false) ∧ w'.cell? ⟨b3, 5, none⟩ = some (.slice (some ⟨b2, 0, none⟩) 2 2)) from fun w' hb =>
    have h := HBX.out.below hb HBX.out.lt
    ⟨h.cell 0 rfl, h.cell 1 rfl, h.cell 2 rfl, h.cell 3 rfl, h.cell 4 rfl, h.cell 5 rfl⟩)
  have HBW := Lib.hid (Below.drew (Below.refl W.heap.size W))
  have HS0 := Lib.hid (HS.out _ HBW.out)
  have HC := Lib.hid (fun (w1 : World) (vp : Value) (hb : Below W.heap.size W w1) (hp : RSl w1 vp wholeL) => Set_ok (exC w.heap.size b2) W.heap.size w1 vp wholeL (HIN.out.below hb (Nat.le_refl _)) hb.size hp (by rw [exC_sz]; decide) (by simp [wholeL]))
  simp only [exC, CT.v, CT.cells] at HC
  go_region_held3 (fun w' => w'.cell? ⟨b3, 0, none⟩ = some (.int .i64 4) ∧ w'.cell? ⟨b3, 1, none⟩ = some (.int .i64 0) ∧ w'.cell? ⟨b3, 2, none⟩ = some (.int .i64 0) ∧ w'.cell? ⟨b3, 3, none⟩ = some (.bool false) ∧ w'.cell? ⟨b3, 4, none⟩ = some (.bool false) ∧ w'.cell? ⟨b3, 5, none⟩ = some (.slice (some ⟨b2, 0, none⟩) 2 2)) (first | with_reducible exact HS2.out | with_reducible exact HS1.out | with_reducible exact HS0.out) (first
    | (go_at_call 28; (with_reducible refine (Whole_ok _).mono ?_); rintro e w1 ⟨vp, rfl, h1, h2⟩; have HBW1 := Lib.hid (HBW.out.trans (h2.mono HBW.out.size)); have HS1 := Lib.hid (HS.out _ HBW1.out); have HC1 := Lib.hid (HC.out _ vp HBW1.out h1); clear h1 h2)
    | (go_at_call 11; (with_reducible refine HC1.out.mono ?_); rintro e w2 ⟨va, ra, rfl, h1, h2⟩; have HA := Lib.hid h1; have HBW2 := Lib.hid (HBW1.out.trans (h2.mono HBW1.out.size)); have HS2 := Lib.hid (HS.out _ HBW2.out); have HB2 := Lib.hid (HB0.out.trans (HBW2.out.mono HB0.out.size)); clear h1 h2))
  have HV := Lib.hid (show RSl w2 va exL from by rw [← exL_of (b := w.heap.size) (c := b2) HA.out.2.1]; exact HA.out.1)
  clear HA HC1 HC HS HS0 HS1 HS2 HBW HBW1 HIN HBX
  go_wp2_with fail
  refine (Size_ok w2).mono ?_
  rintro e w3 ⟨vs, rfl, h1, h2⟩
  have HB3 := Lib.hid (HB2.out.trans (h2.mono HB2.out.size))
  have HV3 := Lib.hid (HV.out.below h2)
  have HC2 := Lib.hid (Set_ok (sp1 0 5 true) w3.heap.size w3 vs sizeL (sp1_in _ _ 0 5 true (by unfold I64; omega) (by unfold I64; omega)) (Nat.le_refl _) h1 (by simp [sp1, CT.sz, sumN]) (by simp [sizeL]))
  rw [show (sp1 0 5 true).v = .agg #[.int .i64 1, .int .i64 0, .int .i64 5, .bool true, .bool false, .slice none 0 0] from rfl] at HC2
  clear h1 h2 HV HB2
  go_wp2_with fail
  refine HC2.out.mono ?_
  rintro e w4 ⟨vm, rm, rfl, h1, h2⟩
  have HB4 := Lib.hid (HB3.out.trans (h2.mono HB3.out.size))
  have HV4 := Lib.hid (HV3.out.below h2)
  have HM4 := Lib.hid (show RSl w4 vm [(0, 5)] from by rw [← exM_of h1.2.1]; exact h1.1)
  have HC3 := Lib.hid (Ends_ok w4 va exL HV4.out (by simp [exL]))
  clear h1 h2 HC2 HV3 HB3
  go_wp2_with fail
  refine HC3.out.mono ?_
  rintro e w5 ⟨r, rfl, hs, h2⟩
  obtain rfl : r = exL := exE_of hs
  rw [show eLo exL = 0 from rfl, show eHi exL = 9 from rfl, show eOk exL = true from rfl]
  have HB5 := Lib.hid (HB4.out.trans (h2.mono HB4.out.size))
  have HV5 := Lib.hid (HV4.out.below h2)
  have HM5 := Lib.hid (HM4.out.below h2)
  have hb6 := lit_below w5 (.cells #[.int .i64 0, .int .i64 2, .int .i64 4, .int .i64 7, .int .i64 9, .int .i64 9] 51)
  have HC4 := Lib.hid (same_yes _ va _ exL exL (HV5.out.below hb6) (rsl_lit w5 exL exL_bd #[.int .i64 0, .int .i64 2, .int .i64 4, .int .i64 7, .int .i64 9, .int .i64 9] rfl 3 rfl) (by simp [exL]) rfl)
  have HB6 := Lib.hid (HB5.out.trans (hb6.mono HB5.out.size))
  have HM6 := Lib.hid (HM5.out.below hb6)
  clear hs h2 hb6 HC3 HB4 HV4 HM4 HB5 HV5 HM5
  go_wp2_with fail
  refine HC4.out.mono ?_
  rintro e w6 ⟨rfl, h2⟩
  have HB7 := Lib.hid (HB6.out.trans (h2.mono HB6.out.size))
  have HM7 := Lib.hid (HM6.out.below h2)
  have hb8 := lit_below w6 (.cells #[.int .i64 0, .int .i64 5] 51)
  have HC5 := Lib.hid (same_yes _ vm _ [(0, 5)] [(0, 5)] (HM7.out.below hb8) (rsl_lit w6 [(0, 5)] (by simp [Bd, I64]) #[.int .i64 0, .int .i64 5] rfl 1 rfl) (by simp) rfl)
  have HB8 := Lib.hid (HB7.out.trans (hb8.mono HB7.out.size))
  clear h2 hb8 HC4 HB6 HM6 HB7 HM7
  go_wp2_with fail
  refine HC5.out.mono ?_
  rintro e w7 ⟨rfl, h2⟩
  have HB9 := Lib.hid (HB8.out.trans (h2.mono HB8.out.size))
  clear h2 HC5 HB8
  go_wp2_with fail
  go_ret
  exact ⟨rfl, HB9.out⟩
end Go.Proofs.Ytfnpjdglfaaegaa
