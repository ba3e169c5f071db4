/-
  Package token: the token between two places.
-/
import Derived.Test.YthcodmcfkmochaaDoorTkE
import Derived.Lib.ReplaceLaws
namespace Go.Proofs.YthcodmcfkmochaaDoor
open Go.RowKit
set_option linter.unusedVariables false
set_option linter.unusedSimpArgs false
set_option maxRecDepth 100000

def tkVal (t : Tk) : Value := .agg #[.int .i64 (t.k : Nat), .string t.t, .int .i64 t.n, .int .i64 (t.a : Nat)]
theorem sub_size (s : ByteArray) (i j : Nat) (h : j ≤ s.size) : (s.extract i j).size = j - i := by rw [ByteArray.size_extract]; omega
theorem replace_ok (D : ByteArray) (hs : D.size ≤ 1000000) (w : World) (h : MxAt w) : Calls Tryd.prog 34 #[.string D, .string ⟨#[34, 34]⟩, .string ⟨#[34]⟩] w fun e w' => e = .returned (.string (unq D)) ∧ Below w.heap.size w w' := by
  obtain ⟨m, h⟩ := h
  have h1 := Lib.countB_mul_le ⟨#[34, 34]⟩ (by decide) D.size D (Nat.le_refl _)
  have h2 : (⟨#[34, 34]⟩ : ByteArray).size = 2 := rfl
  have h3 : (⟨#[34]⟩ : ByteArray).size = 1 := rfl
  rw [h2] at h1
  exact Tryd.strings_ReplaceAll D ⟨#[34, 34]⟩ ⟨#[34]⟩ m w (by omega) h (by decide) (by rw [h3]; omega)
set_option maxHeartbeats 4000000 in
theorem token_plain (s : ByteArray) (k p e : Nat) (w : World) (h2 : k ≠ 2) (h4 : k ≠ 4) (hk : k ≤ 10) (hpe : p ≤ e) (he : e ≤ s.size) (hs : s.size ≤ 100000) :
    Calls Tryd.prog 20 #[.agg #[.string s, .int .i64 (p : Nat)], .int .i64 (k : Nat), .int .i64 (e : Nat)] w fun r w' => r = .returned (.agg #[.int .i64 (k : Nat), .string (s.extract p e), .int .i64 0, .int .i64 (p : Nat)]) ∧ Below w.heap.size w w' := by
  have q1 : ((k : Int) == 2) = false := beq_false_of_ne (by omega)
  have q2 : ((k : Int) == 4) = false := beq_false_of_ne (by omega)
  have q1n : decide (k = 2) = false := decide_eq_false h2
  have q2n : decide (k = 4) = false := decide_eq_false h4
  have e1 : (p : Int) ≤ (e : Int) := by omega
  have e2 : (e : Int) ≤ (s.size : Int) := by omega
  have e3 : (0 : Int) ≤ (p : Int) := by omega
  have e4 : (0 : Int) ≤ (e : Int) := by omega
  clear h2 h4
  go_enter Tryd.func20, Tryd.ntmps20
  go_wp2_with fail
  refine bodyPost_ret (v := .agg #[.int .i64 (k : Nat), .string (s.extract p e), .int .i64 0, .int .i64 (p : Nat)]) ?_ rfl ⟨rfl, ?_⟩
  · simp [results, Tryd.f20, go_sem]
  exact ((((Below.refl _ _).alloc (Nat.le_refl _) _).alloc (by simp) _).alloc (by simp; omega) _)
theorem below_set {B : Nat} {w w' : World} (h : Below B w w') (a : Addr) (v : Value) (ha : B ≤ a.block) : Below B w (w'.setCell a v) :=
  ⟨h.os, h.tape, h.output, by simpa using h.size, fun k hk => (heap_setCell_other _ _ _ _ (by omega)).trans (h.block k hk)⟩
theorem below_set5 {B x y : Nat} {w w' : World} {i : Nat} {v v0 v1 v2 v3 : Value} (h : Below B w w') (hx : B ≤ x) (hy : B ≤ y) : Below B w (((((w'.setCell ⟨x, i, none⟩ v).setCell ⟨y, 0, none⟩ v0).setCell ⟨y, 1, none⟩ v1).setCell ⟨y, 2, none⟩ v2).setCell ⟨y, 3, none⟩ v3) :=
  below_set (below_set (below_set (below_set (below_set h _ _ hx) _ _ hy) _ _ hy) _ _ hy) _ _ hy
/-- two new tokens of the call's own: the result's and the one that is made -/
structure Two (w5 : World) (g : Nat) (k p : Int) : Prop where
  c0 : w5.cell? ⟨g + 1 + 1, 0, none⟩ = some (.int .i64 k)
  c1 : w5.cell? ⟨g + 1 + 1, 1, none⟩ = some (.string ⟨#[]⟩)
  c2 : w5.cell? ⟨g + 1 + 1, 2, none⟩ = some (.int .i64 0)
  c3 : w5.cell? ⟨g + 1 + 1, 3, none⟩ = some (.int .i64 p)
  f1 : w5.frozen? ⟨g + 1 + 1, 1, none⟩ = false
  f2 : w5.frozen? ⟨g + 1 + 1, 2, none⟩ = false
  d0 : w5.cell? ⟨g + 1, 0, none⟩ = some (.int .i64 0)
  d1 : w5.cell? ⟨g + 1, 1, none⟩ = some (.string ⟨#[]⟩)
  d2 : w5.cell? ⟨g + 1, 2, none⟩ = some (.int .i64 0)
  d3 : w5.cell? ⟨g + 1, 3, none⟩ = some (.int .i64 0)
  g0 : w5.frozen? ⟨g + 1, 0, none⟩ = false
  g1 : w5.frozen? ⟨g + 1, 1, none⟩ = false
  g2 : w5.frozen? ⟨g + 1, 2, none⟩ = false
  g3 : w5.frozen? ⟨g + 1, 3, none⟩ = false
theorem two_new (w : World) (s : ByteArray) (k p : Int) (W : World) (hW : ((w.alloc (.cells #[.string s, .int .i64 p] 38)).alloc (.cells #[.int .i64 0, .string ⟨#[]⟩, .int .i64 0, .int .i64 0] 30)).alloc (.cells #[.int .i64 k, .string ⟨#[]⟩, .int .i64 0, .int .i64 p] 30) = W) :
    Below w.heap.size w W ∧ ∀ w5, Below W.heap.size W w5 → Two w5 w.heap.size k p := by
  subst hW
  refine ⟨((Below.refl _ _).alloc (Nat.le_refl _) _).alloc (by simp) _ |>.alloc (by simp; omega) _, fun w5 h => ?_⟩
  have h2 : w5.heap[w.heap.size + 1 + 1]? = some (.cells #[.int .i64 k, .string ⟨#[]⟩, .int .i64 0, .int .i64 p] 30 (0, 0)) := by
    rw [h.block _ (by simp)]
    have := heap_alloc_new ((w.alloc (.cells #[.string s, .int .i64 p] 38)).alloc (.cells #[.int .i64 0, .string ⟨#[]⟩, .int .i64 0, .int .i64 0] 30)) (.cells #[.int .i64 k, .string ⟨#[]⟩, .int .i64 0, .int .i64 p] 30)
    rw [show ((w.alloc (.cells #[.string s, .int .i64 p] 38)).alloc (.cells #[.int .i64 0, .string ⟨#[]⟩, .int .i64 0, .int .i64 0] 30)).heap.size = w.heap.size + 1 + 1 by simp] at this
    exact this
  have h1 : w5.heap[w.heap.size + 1]? = some (.cells #[.int .i64 0, .string ⟨#[]⟩, .int .i64 0, .int .i64 0] 30 (0, 0)) := by
    rw [h.block _ (by simp), heap_alloc_old _ _ (by simp)]
    have := heap_alloc_new (w.alloc (.cells #[.string s, .int .i64 p] 38)) (.cells #[.int .i64 0, .string ⟨#[]⟩, .int .i64 0, .int .i64 0] 30)
    rw [show (w.alloc (.cells #[.string s, .int .i64 p] 38)).heap.size = w.heap.size + 1 by simp] at this
    exact this
  exact ⟨cell_of_row _ _ _ _ _ _ h2, cell_of_row _ _ _ _ _ _ h2, cell_of_row _ _ _ _ _ _ h2, cell_of_row _ _ _ _ _ _ h2, frozen_of_row _ _ _ _ _ h2, frozen_of_row _ _ _ _ _ h2,
    cell_of_row _ _ _ _ _ _ h1, cell_of_row _ _ _ _ _ _ h1, cell_of_row _ _ _ _ _ _ h1, cell_of_row _ _ _ _ _ _ h1, frozen_of_row _ _ _ _ _ h1, frozen_of_row _ _ _ _ _ h1, frozen_of_row _ _ _ _ _ h1, frozen_of_row _ _ _ _ _ h1⟩
set_option maxHeartbeats 4000000 in
theorem token_int (s : ByteArray) (p e : Nat) (v : Int) (w : World) (ha : Lib.atoiAll (s.extract p e).data.toList = .ok v) (hpe : p ≤ e) (he : e ≤ s.size) (hs : s.size ≤ 100000) :
    Calls Tryd.prog 20 #[.agg #[.string s, .int .i64 (p : Nat)], .int .i64 2, .int .i64 (e : Nat)] w fun r w' => r = .returned (.agg #[.int .i64 2, .string ⟨#[]⟩, .int .i64 v, .int .i64 (p : Nat)]) ∧ Below w.heap.size w w' := by
  have hD := sub_size s p e he
  have HA := Lib.hid (fun w => atoi_yes (s.extract p e) v (by omega) ha w)
  have e1 : (p : Int) ≤ (e : Int) := by omega
  have e2 : (e : Int) ≤ (s.size : Int) := by omega
  have e3 : (0 : Int) ≤ (p : Int) := by omega
  have e4 : (0 : Int) ≤ (e : Int) := by omega
  have HT := Lib.hid (two_new w s 2 p _ rfl)
  clear ha hD
  go_enter Tryd.func20, Tryd.ntmps20
  go_wp2_with fail
  generalize ((w.alloc (.cells #[.string s, .int .i64 (p : Nat)] 38)).alloc (.cells #[.int .i64 0, .string ⟨#[]⟩, .int .i64 0, .int .i64 0] 30)).alloc (.cells #[.int .i64 2, .string ⟨#[]⟩, .int .i64 0, .int .i64 (p : Nat)] 30) = W at *
  refine (HA.out _).mono ?_
  rintro e w5 ⟨rfl, hb⟩
  have HB := Lib.hid (HT.out.1.trans (hb.mono HT.out.1.size))
  obtain ⟨c0, c1, c2, c3, f1, f2, d0, d1, d2, d3, g0, g1, g2, g3⟩ := HT.out.2 w5 hb
  clear hb HA HT
  go_wp2_with fail
  refine bodyPost_ret (v := .agg #[.int .i64 2, .string ⟨#[]⟩, .int .i64 v, .int .i64 (p : Nat)]) ?_ rfl ⟨rfl, ?_⟩
  · simp [results, Tryd.f20, go_sem, *]
  exact below_set5 HB.out (by omega) (by omega)
set_option maxHeartbeats 4000000 in
theorem token_quoted (s : ByteArray) (p e : Nat) (w : World) (hgl : Gl w) (hpe : p + 2 ≤ e) (he : e ≤ s.size) (hs : s.size ≤ 100000) :
    Calls Tryd.prog 20 #[.agg #[.string s, .int .i64 (p : Nat)], .int .i64 4, .int .i64 (e : Nat)] w fun r w' => r = .returned (.agg #[.int .i64 4, .string (unq (s.extract (p + 1) (e - 1))), .int .i64 0, .int .i64 (p : Nat)]) ∧ Below w.heap.size w w' := by
  have hD := sub_size s p e he
  have hDD : (s.extract p e).extract 1 ((s.extract p e).size - 1) = s.extract (p + 1) (e - 1) := by
    rw [hD, ByteArray.extract_extract]
    congr 1
    omega
  have HA := Lib.hid (fun w h => replace_ok (s.extract (p + 1) (e - 1)) (by rw [sub_size _ _ _ (by omega)]; omega) w h)
  have e1 : (p : Int) ≤ (e : Int) := by omega
  have e2 : (e : Int) ≤ (s.size : Int) := by omega
  have e3 : (0 : Int) ≤ (p : Int) := by omega
  have e4 : (0 : Int) ≤ (e : Int) := by omega
  obtain ⟨m, hm⟩ : ∃ m, (s.extract p e).size - 1 = m := ⟨_, rfl⟩
  rw [hm] at hDD
  have m1 : ((s.extract p e).size : Int) - 1 = (m : Int) := by omega
  have m2 : (1 : Int) ≤ (m : Int) := by omega
  have m4 : m ≤ 100000 := by omega
  have m5 : wrap64 (m : Int) = (m : Int) := by unfold wrap64; omega
  have m3 : (m : Int) ≤ ((s.extract p e).size : Int) := by omega
  have HT := Lib.hid (two_new w s 4 p _ rfl)
  have HGL := Lib.hid hgl
  have HDD := Lib.hid hDD
  clear hD hDD hm hgl
  go_enter Tryd.func20, Tryd.ntmps20
  go_upto_region 3 with fail
  generalize s.extract p e = D at *
  go_wp2_with fail
  generalize ((w.alloc (.cells #[.string s, .int .i64 (p : Nat)] 38)).alloc (.cells #[.int .i64 0, .string ⟨#[]⟩, .int .i64 0, .int .i64 0] 30)).alloc (.cells #[.int .i64 4, .string ⟨#[]⟩, .int .i64 0, .int .i64 (p : Nat)] 30) = W at *
  rw [HDD.out]
  refine (HA.out _ (HGL.out.below HT.out.1).mx).mono ?_
  rintro e w5 ⟨rfl, hb⟩
  have HB := Lib.hid (HT.out.1.trans (hb.mono HT.out.1.size))
  obtain ⟨c0, c1, c2, c3, f1, f2, d0, d1, d2, d3, g0, g1, g2, g3⟩ := HT.out.2 w5 hb
  clear hb HA HT
  go_wp2_with fail
  refine bodyPost_ret (v := .agg #[.int .i64 4, .string (unq (s.extract (p + 1) (e - 1))), .int .i64 0, .int .i64 (p : Nat)]) ?_ rfl ⟨rfl, ?_⟩
  · simp [results, Tryd.f20, go_sem, *]
  exact below_set5 HB.out (by omega) (by omega)
end Go.Proofs.YthcodmcfkmochaaDoor
