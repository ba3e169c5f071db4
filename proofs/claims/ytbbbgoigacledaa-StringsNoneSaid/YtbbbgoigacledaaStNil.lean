/-
  Package strings: of a Writer or a Reader that is none.
-/
import Derived.Test.YtbbbgoigacledaaStTab2
namespace Go.Proofs.Ytbbbgoigacledaa
open Go.RowKit Go.Shelf
set_option linter.unusedVariables false
set_option linter.unusedSimpArgs false
set_option maxRecDepth 100000

theorem below3 (w : World) (o1 o2 o3 : Obj) : Below w.heap.size w (((w.alloc o1).alloc o2).alloc o3) := (((Below.refl w.heap.size w).alloc (Nat.le_refl _) o1).alloc (by simp) o2).alloc (by simp; omega) o3
theorem sputOctets_nil (w : World) (al : Bool) (a : Option Addr) (n cp : Nat) (lo hi : Int) :
    Calls Try.prog 12 #[.pointer none, .bool al, .slice a n cp, .int .i64 lo, .int .i64 hi] w fun e w' => e = .returned (.int .i64 1) ∧ Below w.heap.size w w' := by
  go_enter Try.func12, Try.ntmps12
  go_wp2_with fail
  go_ret
  exact ⟨rfl, below3 _ _ _ _⟩
theorem sputBits_nil (w : World) (al : Bool) (s : ByteArray) (lo hi : Int) :
    Calls Try.prog 18 #[.pointer none, .bool al, .string s, .int .i64 lo, .int .i64 hi] w fun e w' => e = .returned (.int .i64 1) ∧ Below w.heap.size w w' := by
  go_enter Try.func18, Try.ntmps18
  go_wp2_with fail
  go_ret
  exact ⟨rfl, below3 _ _ _ _⟩
theorem below2 (w : World) (o1 o2 : Obj) : Below w.heap.size w ((w.alloc o1).alloc o2) := ((Below.refl w.heap.size w).alloc (Nat.le_refl _) o1).alloc (by simp) o2
theorem sputText_nil (w : World) (al : Bool) (s fr : ByteArray) (lo hi : Int) (hfr : fr.size ≤ 9223372036854775807) :
    Calls Try.prog 20 #[.pointer none, .bool al, .string s, .string fr, .int .i64 lo, .int .i64 hi] w fun e w' => e = .returned (.int .i64 1) ∧ Below w.heap.size w w' := by
  have HW := Lib.hid (fun w => swidth_ok fr al w hfr)
  have HB := Lib.hid (below2 w (.cells #[.pointer none] 24) (.cells #[.string s] 9))
  have HC := Lib.hid (show Cel ((w.alloc (.cells #[.pointer none] 24)).alloc (.cells #[.string s] 9)) w.heap.size 24 (.pointer none) from (Cel.new w _ _).alloc _)
  generalize wdT (cods fr) al = k at *
  go_enter Try.func20, Try.ntmps20
  go_wp2_with fail
  refine (HW.out _).mono ?_
  rintro e w1 ⟨rfl, hb1⟩
  have hb2 := (Below.refl w1.heap.size w1).alloc (Nat.le_refl _) (.cells #[.bool al, .int .i64 lo, .int .i64 hi, .int .i64 (k : Nat), .bool true] 63)
  have H1 := Lib.hid ((HB.out.trans (hb1.mono HB.out.size)).trans (hb2.mono (Nat.le_trans HB.out.size hb1.size)))
  have c1 := ((HC.out.below hb1).below hb2).cell
  clear hb1 hb2 HB HC HW
  go_wp2_with fail
  go_ret
  exact ⟨rfl, H1.out⟩
theorem sgetOctets_nil (w : World) (al : Bool) (lo hi : Int) :
    Calls Try.prog 26 #[.pointer none, .bool al, .int .i64 lo, .int .i64 hi] w fun e w' => e = .returned (.tuple #[.slice none 0 0, .int .i64 1]) ∧ Below w.heap.size w w' := by
  go_enter Try.func26, Try.ntmps26
  go_wp2_with fail
  go_ret2
  exact ⟨rfl, (Below.refl w.heap.size w).alloc (Nat.le_refl _) _⟩
theorem sgetBits_nil (w : World) (al : Bool) (lo hi : Int) :
    Calls Try.prog 27 #[.pointer none, .bool al, .int .i64 lo, .int .i64 hi] w fun e w' => e = .returned (.tuple #[.string ⟨#[]⟩, .int .i64 1]) ∧ Below w.heap.size w w' := by
  go_enter Try.func27, Try.ntmps27
  go_wp2_with fail
  go_ret2
  exact ⟨rfl, (Below.refl w.heap.size w).alloc (Nat.le_refl _) _⟩
theorem sgetText_nil (w : World) (al : Bool) (fr : ByteArray) (lo hi : Int) (hfr : fr.size ≤ 9223372036854775807) :
    Calls Try.prog 28 #[.pointer none, .bool al, .string fr, .int .i64 lo, .int .i64 hi] w fun e w' => e = .returned (.tuple #[.string ⟨#[]⟩, .int .i64 1]) ∧ Below w.heap.size w w' := by
  have HW := Lib.hid (swidth_ok fr al w hfr)
  generalize wdT (cods fr) al = k at *
  go_enter Try.func28, Try.ntmps28
  go_wp2_with fail
  refine HW.out.mono ?_
  rintro e w1 ⟨rfl, hb1⟩
  have H1 := Lib.hid (hb1.alloc hb1.size (.cells #[.bool al, .int .i64 lo, .int .i64 hi, .int .i64 (k : Nat), .bool true] 63))
  clear hb1 HW
  go_wp2_with fail
  go_ret2
  exact ⟨rfl, H1.out⟩
end Go.Proofs.Ytbbbgoigacledaa
