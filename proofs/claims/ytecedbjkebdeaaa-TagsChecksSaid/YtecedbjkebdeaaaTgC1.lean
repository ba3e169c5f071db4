/-
  Package tags: the comparison of 'Order'.
-/
import Derived.Test.YtecedbjkebdeaaaTgLt
import Derived.Deep.QuietTactic
import Derived.BigQuiet
namespace Go.Proofs.Ytecedbjkebdeaaa
open Go.RowKit Go.Maps Go.WideElems Go.ChangeMaps Go.MapKept Go.Shelf
set_option linter.unusedVariables false
set_option linter.unusedSimpArgs false
set_option maxRecDepth 100000

set_option maxHeartbeats 2000000 in
theorem less_ok (W : World) (lb lg n cap : Nat) (key : Nat → Int) (a b : Nat) (ha : a < n) (hb : b < n) (h0 : W.cell? ⟨lb, 0, none⟩ = some (.slice (some ⟨lg, 0, none⟩) n cap)) (h1 : ∀ i, i < n → W.cell? ⟨lg, i, none⟩ = some (.int .i64 (key i))) :
    Calls Try.prog 23 #[.int .i64 (a : Nat), .int .i64 (b : Nat), .pointer (some ⟨lb, 0, none⟩)] W fun e w' => e = .returned (.int .i64 (Lib.compareInt (key a) (key b))) ∧ ∃ q, w' = W.drewN q := by
  have hcon := fun W => AnyG.cmp_Compare_int Try.cmpInt (key a) (key b) W
  change ∀ W, Calls Try.prog 24 _ _ _ at hcon
  have HC := Lib.hid hcon
  have ca := h1 a ha
  have cb := h1 b hb
  have hia : ∀ w, (Instr.indexAt 37 (.slice (some ⟨lg, 0, none⟩) n cap) (.int .i64 (a : Nat))).run Try.prog w = .ok (.pointer (some ⟨lg, a, none⟩)) w := fun w => by
    rw [run_indexAt_slice (h := by rw [show Try.prog.elem 37 = 3 from by kernel_rfl]; exact Try.underlying37), if_pos (by omega), show Try.prog.elem 37 = 3 from by kernel_rfl, Try.sizeOf3]
    simp [Result.andThen, Addr.add_mid]
  have hib : ∀ w, (Instr.indexAt 37 (.slice (some ⟨lg, 0, none⟩) n cap) (.int .i64 (b : Nat))).run Try.prog w = .ok (.pointer (some ⟨lg, b, none⟩)) w := fun w => by
    rw [run_indexAt_slice (h := by rw [show Try.prog.elem 37 = 3 from by kernel_rfl]; exact Try.underlying37), if_pos (by omega), show Try.prog.elem 37 = 3 from by kernel_rfl, Try.sizeOf3]
    simp [Result.andThen, Addr.add_mid]
  obtain ⟨x, hx⟩ : ∃ x, key a = x := ⟨_, rfl⟩
  obtain ⟨y, hy⟩ : ∃ y, key b = y := ⟨_, rfl⟩
  rw [hx] at ca HC ⊢
  rw [hy] at cb HC ⊢
  have HC2 := Lib.hid (show ∀ W, Calls Try.prog 24 #[.int .i64 x, .int .i64 y] W fun e w' => e = .returned (.int .i64 (Lib.compareInt x y)) ∧ w' = W from HC.out)
  have x1 : (a : Int) < (n : Int) := by omega
  have x2 : (b : Int) < (n : Int) := by omega
  obtain ⟨r, hr⟩ : ∃ r, Lib.compareInt x y = r := ⟨_, rfl⟩
  rw [hr] at HC2 ⊢
  clear h1 hcon HC hx hy hr
  go_enter Try.func23, Try.ntmps23
  go_wp2_with fail
  go_quiet ((go_at_call 24; refine Calls.quiet_of_same (HC2.out _)))
  go_wp2_with fail
  go_ret
  exact ⟨rfl, _, rfl⟩
end Go.Proofs.Ytecedbjkebdeaaa
