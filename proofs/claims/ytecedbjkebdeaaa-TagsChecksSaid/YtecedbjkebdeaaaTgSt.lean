/-
  Package tags: the stable sort of fewer than twenty places.
-/
import Derived.Test.YtecedbjkebdeaaaTgC1
import Derived.Shelf.SlSortCmp.Insertion1
import Derived.Test.YtecedbjkebdeaaaShelf2
namespace Go.Proofs.Ytecedbjkebdeaaa
open Go.RowKit Go.Maps Go.WideElems Go.ChangeMaps Go.MapKept Go.Shelf Go.Sort Go.Lib
set_option linter.unusedVariables false
set_option linter.unusedSimpArgs false
set_option maxRecDepth 100000

section
variable {α : Type} [Inhabited α]
set_option maxHeartbeats 2000000 in
theorem stableCmp_ok (enc : α → Value) (hO : OneCell enc) (cf : α → α → Int) (cb : Array Value) (blk off cap : Nat) (d : Array α) (w : World)
    (hcmp : CmpReads Try.prog 23 cb enc cf blk off d.size w) (hH : Holds enc w blk off d) (h20 : d.size < 20) :
    Calls Try.prog 38 #[.slice (some ⟨blk, off, none⟩) d.size cap, .int .i64 (d.size : Nat), .func (.func 23) #[] cb] w fun e w' =>
      e = .returned (.tuple #[]) ∧ ∃ n, w' = (putRow enc w blk off (Sort.insertionSort (ltOf cf) d 0 d.size)).drewN n := by
  have hi := Any.insertionSortCmpFunc_one (L := Try.insA) enc hO cf 23 cb blk off cap 0 d.size d w (enters_of Try.func23 (by kernel_rfl) rfl) hcmp hH (Nat.zero_le _) (Nat.le_refl _) (by omega)
  change Calls Try.prog 53 #[.slice (some ⟨blk, off, none⟩) d.size cap, .int .i64 (0 : Nat), .int .i64 (d.size : Nat), _] _ _ at hi
  obtain ⟨N, hN⟩ : ∃ N, d.size = N := ⟨_, rfl⟩
  have HI := Lib.hid hi
  rw [hN] at h20 HI ⊢
  clear hi hH hcmp hN
  have q1 : ¬ ((20 : Int) ≤ (N : Int)) := by omega
  have q2 : ¬ ((20 : Int) < (N : Int)) := by omega
  go_enter Try.func38, Try.ntmps38
  go_wp2_with fail
  refine wp_loop_rounds 1 ?_
  rw [rounds_succ]
  go_wp2_with fail
  refine HI.out.mono ?_
  rintro e w' ⟨rfl, n, rfl⟩
  go_wp2_with fail
  refine wp_loop_rounds 1 ?_
  rw [rounds_succ]
  go_wp2_with fail
  go_end0
  exact ⟨rfl, n, rfl⟩
set_option maxHeartbeats 2000000 in
theorem sortStable_ok (enc : α → Value) (hO : OneCell enc) (cf : α → α → Int) (cb : Array Value) (blk off cap : Nat) (d : Array α) (w : World)
    (hcmp : CmpReads Try.prog 23 cb enc cf blk off d.size w) (hH : Holds enc w blk off d) (h20 : d.size < 20) :
    Calls Try.prog 22 #[.slice (some ⟨blk, off, none⟩) d.size cap, .func (.func 23) #[] cb] w fun e w' =>
      e = .returned (.tuple #[]) ∧ ∃ n, w' = (putRow enc w blk off (Sort.insertionSort (ltOf cf) d 0 d.size)).drewN n := by
  have HI := Lib.hid (stableCmp_ok enc hO cf cb blk off cap d w hcmp hH h20)
  obtain ⟨N, hN⟩ : ∃ N, d.size = N := ⟨_, rfl⟩
  rw [hN] at h20 HI ⊢
  clear hH hcmp hN
  go_enter Try.func22, Try.ntmps22
  go_wp2_with fail
  refine HI.out.mono ?_
  rintro e w' ⟨rfl, n, rfl⟩
  go_wp2_with fail
  go_end0
  exact ⟨rfl, n, rfl⟩
end
end Go.Proofs.Ytecedbjkebdeaaa
