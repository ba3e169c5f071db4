/-
  Package tags: 'find'.
-/
import Derived.Test.YtecedbjkebdeaaaTgB
import Derived.Maps.OwnIn
namespace Go.Proofs.Ytecedbjkebdeaaa
open Go.RowKit Go.Maps Go.WideElems Go.ChangeMaps Go.MapKept Go.Shelf
set_option linter.unusedVariables false
set_option linter.unusedSimpArgs false
set_option maxRecDepth 100000

theorem pl_some (k : Nat) (w : World) : (binOp .eql 56 (.map (some k)) (.map none)).run Try.prog w = .ok (.bool false) w := by kernel_rfl
theorem pl_none (w : World) : (binOp .eql 56 (.map none) (.map none)).run Try.prog w = .ok (.bool true) w := by kernel_rfl
theorem zero_int (w : World) : (zeroValue 3).run Try.prog w = .ok (.int .i64 0) w := by kernel_rfl
theorem mk_pl (n : Int) (w : World) : (Instr.makeMap 56 (some (.int .i64 n))).run Try.prog w = .ok (.map (some w.heap.size)) (w.alloc (.map #[] 0)) := by kernel_rfl
/-- what 'find' tells -/
def Found (l : EL) (s : ByteArray) (e : Ending) : Prop := ∃ c : Int, e = .returned (.tuple #[.int .i64 c, .bool (l.fnd s).isSome]) ∧ ∀ p, l.fnd s = some p → c = (p : Nat)
theorem found_of {l : EL} {s : ByteArray} {D : DataW Unit} {c : Int} (h1 : has D (.string s.data.toList) = (l.fnd s).isSome) (h2 : ∀ p, l.fnd s = some p → D.atKey (.string s.data.toList) (.lit (.int .i64 0)) = .lit (.int .i64 (p : Nat))) (hc : D.atKey (.string s.data.toList) (.lit (.int .i64 0)) = .lit (.int .i64 c)) :
    Found l s (.returned (.tuple #[.int .i64 c, .bool (has D (.string s.data.toList))])) := by
  refine ⟨c, by rw [h1], fun p hp => ?_⟩
  have h3 := (h2 p hp).symm.trans hc
  injection h3 with h3
  injection h3 with _ h3
  exact h3.symm
set_option maxHeartbeats 4000000 in
theorem find_have (B : Nat) (w : World) (b : Nat) (l : EL) (G : GL) (L : Nat → Prop) (V : GV) (s : ByteArray) (k : Nat) (h : GAtL B w b l G L V) (hB : B ≤ w.heap.size) (hk : V.pm = some k) (hs : s.size ≤ 9223372036854775807) :
    Calls Try.prog 47 #[.pointer (some ⟨b, 0, none⟩), .string s] w fun e w' => Found l s e ∧ GAtL B w' b l G L V ∧ Mv V.own w V.own w' ∧ Below w.heap.size w w' := by
  obtain ⟨D, hD, hl⟩ := (h.pl k hk).2
  have HL := Lib.hid (hl s hs)
  have HD := Lib.hid (fun o => hD.alloc o)
  have c1 : ∀ o, (w.alloc o).cell? ⟨b, 1, none⟩ = some (.map (some k)) := fun o => (h.bx.alloc o).cell 1 (by rw [← hk]; rfl)
  have hno := pl_some k
  have HH := Lib.hid (fun o => h.alloc o)
  have HLO := Lib.hid (fun j hj => (h.lo j hj).2)
  have HKEY := Lib.hid (keyOfS hs)
  clear h hl hD
  go_enter Try.func47, Try.ntmps47
  go_wp2_with (at_lookup; refine wpList_lookup_own_ok_int _ rfl _ _ 56 rfl 9 3 .i64 keyS Try.underlying56 Try.underlying3 (zero_int _) k l.n D rfl (HD.out _) _ _ rfl HKEY.out ?_; intro c hat hwc; have HAT := Lib.hid hat; clear hat hwc)
  go_ret2
  exact ⟨found_of HL.out.1 HL.out.2 HAT.out, HH.out _, Mv.alloc _ _ _ HLO.out, (Below.refl w.heap.size w).alloc (Nat.le_refl _) _⟩
end Go.Proofs.Ytecedbjkebdeaaa
