/-
  A bundle of texts, one behind the other: ShV5D0, ShV5D1, ShV5D2a, ShV5D2b, ShV5D3.
-/
import Derived.Test.YtgibjhljcdhppaaGreatDoorJO
import Derived.Test.YtgibjhljcdhppaaGreatDoorJM
import Derived.BigQuiet
/-
  The document's whether two types are the same: a comparison that differs.
-/
namespace Go.Proofs.YtgibjhljcdhppaaGreatDoor
open Go.RowKit
open Go.BigFrame
set_option linter.unusedVariables false
set_option linter.unusedSimpArgs false
set_option maxRecDepth 100000

set_option maxHeartbeats 16000000 in
theorem rSame_D0 (w : World) (kd op lo hi kd' op' lo' hi' : Int) (tn fr tn' fr' : ByteArray) (lw hg ext lw' hg' ext' : Bool) (ca sa ma pa aa ea ca' sa' ma' pa' aa' ea' : Option Addr) (cn cc sn sc mn mc pn pc an ac en ec cn' cc' sn' sc' mn' mc' pn' pc' an' ac' en' ec' : Nat) (h0 : (kd == kd') = false) :
    Calls Tryz.prog 31 #[.agg #[.int .i64 kd, .string tn, .int .i64 op, .int .i64 lo, .int .i64 hi, .bool lw, .bool hg, .slice ca cn cc, .bool ext, .string fr, .slice sa sn sc, .slice ma mn mc, .slice pa pn pc, .slice aa an ac, .slice ea en ec], .agg #[.int .i64 kd', .string tn', .int .i64 op', .int .i64 lo', .int .i64 hi', .bool lw', .bool hg', .slice ca' cn' cc', .bool ext', .string fr', .slice sa' sn' sc', .slice ma' mn' mc', .slice pa' pn' pc', .slice aa' an' ac', .slice ea' en' ec']] w fun e w' => e = .returned (.bool false) ∧ Below w.heap.size w w' := by
  have HB0 := Lib.hid (((Below.refl w.heap.size w).alloc (Nat.le_refl _) (.cells #[.int .i64 kd, .string tn, .int .i64 op, .int .i64 lo, .int .i64 hi, .bool lw, .bool hg, .slice ca cn cc, .bool ext, .string fr, .slice sa sn sc, .slice ma mn mc, .slice pa pn pc, .slice aa an ac, .slice ea en ec] 33)).alloc (by simp) (.cells #[.int .i64 kd', .string tn', .int .i64 op', .int .i64 lo', .int .i64 hi', .bool lw', .bool hg', .slice ca' cn' cc', .bool ext', .string fr', .slice sa' sn' sc', .slice ma' mn' mc', .slice pa' pn' pc', .slice aa' an' ac', .slice ea' en' ec'] 33))
  have HX1 := Lib.hid ((Bx.new w #[.int .i64 kd, .string tn, .int .i64 op, .int .i64 lo, .int .i64 hi, .bool lw, .bool hg, .slice ca cn cc, .bool ext, .string fr, .slice sa sn sc, .slice ma mn mc, .slice pa pn pc, .slice aa an ac, .slice ea en ec] 33).alloc (.cells #[.int .i64 kd', .string tn', .int .i64 op', .int .i64 lo', .int .i64 hi', .bool lw', .bool hg', .slice ca' cn' cc', .bool ext', .string fr', .slice sa' sn' sc', .slice ma' mn' mc', .slice pa' pn' pc', .slice aa' an' ac', .slice ea' en' ec'] 33))
  have HX2 := Lib.hid (show Bx ((w.alloc (.cells #[.int .i64 kd, .string tn, .int .i64 op, .int .i64 lo, .int .i64 hi, .bool lw, .bool hg, .slice ca cn cc, .bool ext, .string fr, .slice sa sn sc, .slice ma mn mc, .slice pa pn pc, .slice aa an ac, .slice ea en ec] 33)).alloc (.cells #[.int .i64 kd', .string tn', .int .i64 op', .int .i64 lo', .int .i64 hi', .bool lw', .bool hg', .slice ca' cn' cc', .bool ext', .string fr', .slice sa' sn' sc', .slice ma' mn' mc', .slice pa' pn' pc', .slice aa' an' ac', .slice ea' en' ec'] 33)) (w.heap.size + 1) #[.int .i64 kd', .string tn', .int .i64 op', .int .i64 lo', .int .i64 hi', .bool lw', .bool hg', .slice ca' cn' cc', .bool ext', .string fr', .slice sa' sn' sc', .slice ma' mn' mc', .slice pa' pn' pc', .slice aa' an' ac', .slice ea' en' ec'] 33 by have h := Bx.new (w.alloc (.cells #[.int .i64 kd, .string tn, .int .i64 op, .int .i64 lo, .int .i64 hi, .bool lw, .bool hg, .slice ca cn cc, .bool ext, .string fr, .slice sa sn sc, .slice ma mn mc, .slice pa pn pc, .slice aa an ac, .slice ea en ec] 33)) #[.int .i64 kd', .string tn', .int .i64 op', .int .i64 lo', .int .i64 hi', .bool lw', .bool hg', .slice ca' cn' cc', .bool ext', .string fr', .slice sa' sn' sc', .slice ma' mn' mc', .slice pa' pn' pc', .slice aa' an' ac', .slice ea' en' ec'] 33; rw [World.size_alloc] at h; exact h)
  have q0 : (kd != kd') = true := by unfold bne; rw [show (kd == kd') = false from h0]; rfl
  clear h0
  go_enter Tryz.func31, Tryz.ntmps31
  go_wp2_with fail
  go_ret
  exact ⟨rfl, HB0.out⟩
end Go.Proofs.YtgibjhljcdhppaaGreatDoor

/-
  The document's whether two types are the same: a comparison that differs.
-/
namespace Go.Proofs.YtgibjhljcdhppaaGreatDoor
open Go.RowKit
open Go.BigFrame
set_option linter.unusedVariables false
set_option linter.unusedSimpArgs false
set_option maxRecDepth 100000

set_option maxHeartbeats 16000000 in
theorem rSame_D1 (w : World) (kd op lo hi op' lo' hi' : Int) (tn fr tn' fr' : ByteArray) (lw hg ext lw' hg' ext' : Bool) (ca sa ma pa aa ea ca' sa' ma' pa' aa' ea' : Option Addr) (cn cc sn sc mn mc pn pc an ac en ec cn' cc' sn' sc' mn' mc' pn' pc' an' ac' en' ec' : Nat) (h1 : sEq tn tn' = false) :
    Calls Tryz.prog 31 #[.agg #[.int .i64 kd, .string tn, .int .i64 op, .int .i64 lo, .int .i64 hi, .bool lw, .bool hg, .slice ca cn cc, .bool ext, .string fr, .slice sa sn sc, .slice ma mn mc, .slice pa pn pc, .slice aa an ac, .slice ea en ec], .agg #[.int .i64 kd, .string tn', .int .i64 op', .int .i64 lo', .int .i64 hi', .bool lw', .bool hg', .slice ca' cn' cc', .bool ext', .string fr', .slice sa' sn' sc', .slice ma' mn' mc', .slice pa' pn' pc', .slice aa' an' ac', .slice ea' en' ec']] w fun e w' => e = .returned (.bool false) ∧ Below w.heap.size w w' := by
  have HB0 := Lib.hid (((Below.refl w.heap.size w).alloc (Nat.le_refl _) (.cells #[.int .i64 kd, .string tn, .int .i64 op, .int .i64 lo, .int .i64 hi, .bool lw, .bool hg, .slice ca cn cc, .bool ext, .string fr, .slice sa sn sc, .slice ma mn mc, .slice pa pn pc, .slice aa an ac, .slice ea en ec] 33)).alloc (by simp) (.cells #[.int .i64 kd, .string tn', .int .i64 op', .int .i64 lo', .int .i64 hi', .bool lw', .bool hg', .slice ca' cn' cc', .bool ext', .string fr', .slice sa' sn' sc', .slice ma' mn' mc', .slice pa' pn' pc', .slice aa' an' ac', .slice ea' en' ec'] 33))
  have HX1 := Lib.hid ((Bx.new w #[.int .i64 kd, .string tn, .int .i64 op, .int .i64 lo, .int .i64 hi, .bool lw, .bool hg, .slice ca cn cc, .bool ext, .string fr, .slice sa sn sc, .slice ma mn mc, .slice pa pn pc, .slice aa an ac, .slice ea en ec] 33).alloc (.cells #[.int .i64 kd, .string tn', .int .i64 op', .int .i64 lo', .int .i64 hi', .bool lw', .bool hg', .slice ca' cn' cc', .bool ext', .string fr', .slice sa' sn' sc', .slice ma' mn' mc', .slice pa' pn' pc', .slice aa' an' ac', .slice ea' en' ec'] 33))
  have HX2 := Lib.hid (show Bx ((w.alloc (.cells #[.int .i64 kd, .string tn, .int .i64 op, .int .i64 lo, .int .i64 hi, .bool lw, .bool hg, .slice ca cn cc, .bool ext, .string fr, .slice sa sn sc, .slice ma mn mc, .slice pa pn pc, .slice aa an ac, .slice ea en ec] 33)).alloc (.cells #[.int .i64 kd, .string tn', .int .i64 op', .int .i64 lo', .int .i64 hi', .bool lw', .bool hg', .slice ca' cn' cc', .bool ext', .string fr', .slice sa' sn' sc', .slice ma' mn' mc', .slice pa' pn' pc', .slice aa' an' ac', .slice ea' en' ec'] 33)) (w.heap.size + 1) #[.int .i64 kd, .string tn', .int .i64 op', .int .i64 lo', .int .i64 hi', .bool lw', .bool hg', .slice ca' cn' cc', .bool ext', .string fr', .slice sa' sn' sc', .slice ma' mn' mc', .slice pa' pn' pc', .slice aa' an' ac', .slice ea' en' ec'] 33 by have h := Bx.new (w.alloc (.cells #[.int .i64 kd, .string tn, .int .i64 op, .int .i64 lo, .int .i64 hi, .bool lw, .bool hg, .slice ca cn cc, .bool ext, .string fr, .slice sa sn sc, .slice ma mn mc, .slice pa pn pc, .slice aa an ac, .slice ea en ec] 33)) #[.int .i64 kd, .string tn', .int .i64 op', .int .i64 lo', .int .i64 hi', .bool lw', .bool hg', .slice ca' cn' cc', .bool ext', .string fr', .slice sa' sn' sc', .slice ma' mn' mc', .slice pa' pn' pc', .slice aa' an' ac', .slice ea' en' ec'] 33; rw [World.size_alloc] at h; exact h)
  have q1 : (tn.toList != tn'.toList) = true := by unfold bne; rw [show (tn.toList == tn'.toList) = false from h1]; rfl
  have qe1 : (tn.toList == tn'.toList) = false := h1
  clear h1
  go_enter Tryz.func31, Tryz.ntmps31
  go_wp2_with fail
  go_ret
  exact ⟨rfl, HB0.out⟩
end Go.Proofs.YtgibjhljcdhppaaGreatDoor

/-
  The document's whether two types are the same: a comparison that differs.
-/
namespace Go.Proofs.YtgibjhljcdhppaaGreatDoor
open Go.RowKit
open Go.BigFrame
set_option linter.unusedVariables false
set_option linter.unusedSimpArgs false
set_option maxRecDepth 100000

set_option maxHeartbeats 16000000 in
theorem rSame_D2a (w : World) (kd op lo hi op' lo' hi' : Int) (tn fr fr' : ByteArray) (lw hg lw' hg' : Bool) (ca sa ma pa aa ea ca' sa' ma' pa' aa' ea' : Option Addr) (cn cc sn sc mn mc pn pc an ac en ec cn' cc' sn' sc' mn' mc' pn' pc' an' ac' en' ec' : Nat) :
    Calls Tryz.prog 31 #[.agg #[.int .i64 kd, .string tn, .int .i64 op, .int .i64 lo, .int .i64 hi, .bool lw, .bool hg, .slice ca cn cc, .bool true, .string fr, .slice sa sn sc, .slice ma mn mc, .slice pa pn pc, .slice aa an ac, .slice ea en ec], .agg #[.int .i64 kd, .string tn, .int .i64 op', .int .i64 lo', .int .i64 hi', .bool lw', .bool hg', .slice ca' cn' cc', .bool false, .string fr', .slice sa' sn' sc', .slice ma' mn' mc', .slice pa' pn' pc', .slice aa' an' ac', .slice ea' en' ec']] w fun e w' => e = .returned (.bool false) ∧ Below w.heap.size w w' := by
  have HB0 := Lib.hid (((Below.refl w.heap.size w).alloc (Nat.le_refl _) (.cells #[.int .i64 kd, .string tn, .int .i64 op, .int .i64 lo, .int .i64 hi, .bool lw, .bool hg, .slice ca cn cc, .bool true, .string fr, .slice sa sn sc, .slice ma mn mc, .slice pa pn pc, .slice aa an ac, .slice ea en ec] 33)).alloc (by simp) (.cells #[.int .i64 kd, .string tn, .int .i64 op', .int .i64 lo', .int .i64 hi', .bool lw', .bool hg', .slice ca' cn' cc', .bool false, .string fr', .slice sa' sn' sc', .slice ma' mn' mc', .slice pa' pn' pc', .slice aa' an' ac', .slice ea' en' ec'] 33))
  have HX1 := Lib.hid ((Bx.new w #[.int .i64 kd, .string tn, .int .i64 op, .int .i64 lo, .int .i64 hi, .bool lw, .bool hg, .slice ca cn cc, .bool true, .string fr, .slice sa sn sc, .slice ma mn mc, .slice pa pn pc, .slice aa an ac, .slice ea en ec] 33).alloc (.cells #[.int .i64 kd, .string tn, .int .i64 op', .int .i64 lo', .int .i64 hi', .bool lw', .bool hg', .slice ca' cn' cc', .bool false, .string fr', .slice sa' sn' sc', .slice ma' mn' mc', .slice pa' pn' pc', .slice aa' an' ac', .slice ea' en' ec'] 33))
  have HX2 := Lib.hid (show Bx ((w.alloc (.cells #[.int .i64 kd, .string tn, .int .i64 op, .int .i64 lo, .int .i64 hi, .bool lw, .bool hg, .slice ca cn cc, .bool true, .string fr, .slice sa sn sc, .slice ma mn mc, .slice pa pn pc, .slice aa an ac, .slice ea en ec] 33)).alloc (.cells #[.int .i64 kd, .string tn, .int .i64 op', .int .i64 lo', .int .i64 hi', .bool lw', .bool hg', .slice ca' cn' cc', .bool false, .string fr', .slice sa' sn' sc', .slice ma' mn' mc', .slice pa' pn' pc', .slice aa' an' ac', .slice ea' en' ec'] 33)) (w.heap.size + 1) #[.int .i64 kd, .string tn, .int .i64 op', .int .i64 lo', .int .i64 hi', .bool lw', .bool hg', .slice ca' cn' cc', .bool false, .string fr', .slice sa' sn' sc', .slice ma' mn' mc', .slice pa' pn' pc', .slice aa' an' ac', .slice ea' en' ec'] 33 by have h := Bx.new (w.alloc (.cells #[.int .i64 kd, .string tn, .int .i64 op, .int .i64 lo, .int .i64 hi, .bool lw, .bool hg, .slice ca cn cc, .bool true, .string fr, .slice sa sn sc, .slice ma mn mc, .slice pa pn pc, .slice aa an ac, .slice ea en ec] 33)) #[.int .i64 kd, .string tn, .int .i64 op', .int .i64 lo', .int .i64 hi', .bool lw', .bool hg', .slice ca' cn' cc', .bool false, .string fr', .slice sa' sn' sc', .slice ma' mn' mc', .slice pa' pn' pc', .slice aa' an' ac', .slice ea' en' ec'] 33; rw [World.size_alloc] at h; exact h)
  have q2 : (true != false) = true := rfl
  go_enter Tryz.func31, Tryz.ntmps31
  go_wp2_with fail
  go_ret
  exact ⟨rfl, HB0.out⟩
end Go.Proofs.YtgibjhljcdhppaaGreatDoor

/-
  The document's whether two types are the same: a comparison that differs.
-/
namespace Go.Proofs.YtgibjhljcdhppaaGreatDoor
open Go.RowKit
open Go.BigFrame
set_option linter.unusedVariables false
set_option linter.unusedSimpArgs false
set_option maxRecDepth 100000

set_option maxHeartbeats 16000000 in
theorem rSame_D2b (w : World) (kd op lo hi op' lo' hi' : Int) (tn fr fr' : ByteArray) (lw hg lw' hg' : Bool) (ca sa ma pa aa ea ca' sa' ma' pa' aa' ea' : Option Addr) (cn cc sn sc mn mc pn pc an ac en ec cn' cc' sn' sc' mn' mc' pn' pc' an' ac' en' ec' : Nat) :
    Calls Tryz.prog 31 #[.agg #[.int .i64 kd, .string tn, .int .i64 op, .int .i64 lo, .int .i64 hi, .bool lw, .bool hg, .slice ca cn cc, .bool false, .string fr, .slice sa sn sc, .slice ma mn mc, .slice pa pn pc, .slice aa an ac, .slice ea en ec], .agg #[.int .i64 kd, .string tn, .int .i64 op', .int .i64 lo', .int .i64 hi', .bool lw', .bool hg', .slice ca' cn' cc', .bool true, .string fr', .slice sa' sn' sc', .slice ma' mn' mc', .slice pa' pn' pc', .slice aa' an' ac', .slice ea' en' ec']] w fun e w' => e = .returned (.bool false) ∧ Below w.heap.size w w' := by
  have HB0 := Lib.hid (((Below.refl w.heap.size w).alloc (Nat.le_refl _) (.cells #[.int .i64 kd, .string tn, .int .i64 op, .int .i64 lo, .int .i64 hi, .bool lw, .bool hg, .slice ca cn cc, .bool false, .string fr, .slice sa sn sc, .slice ma mn mc, .slice pa pn pc, .slice aa an ac, .slice ea en ec] 33)).alloc (by simp) (.cells #[.int .i64 kd, .string tn, .int .i64 op', .int .i64 lo', .int .i64 hi', .bool lw', .bool hg', .slice ca' cn' cc', .bool true, .string fr', .slice sa' sn' sc', .slice ma' mn' mc', .slice pa' pn' pc', .slice aa' an' ac', .slice ea' en' ec'] 33))
  have HX1 := Lib.hid ((Bx.new w #[.int .i64 kd, .string tn, .int .i64 op, .int .i64 lo, .int .i64 hi, .bool lw, .bool hg, .slice ca cn cc, .bool false, .string fr, .slice sa sn sc, .slice ma mn mc, .slice pa pn pc, .slice aa an ac, .slice ea en ec] 33).alloc (.cells #[.int .i64 kd, .string tn, .int .i64 op', .int .i64 lo', .int .i64 hi', .bool lw', .bool hg', .slice ca' cn' cc', .bool true, .string fr', .slice sa' sn' sc', .slice ma' mn' mc', .slice pa' pn' pc', .slice aa' an' ac', .slice ea' en' ec'] 33))
  have HX2 := Lib.hid (show Bx ((w.alloc (.cells #[.int .i64 kd, .string tn, .int .i64 op, .int .i64 lo, .int .i64 hi, .bool lw, .bool hg, .slice ca cn cc, .bool false, .string fr, .slice sa sn sc, .slice ma mn mc, .slice pa pn pc, .slice aa an ac, .slice ea en ec] 33)).alloc (.cells #[.int .i64 kd, .string tn, .int .i64 op', .int .i64 lo', .int .i64 hi', .bool lw', .bool hg', .slice ca' cn' cc', .bool true, .string fr', .slice sa' sn' sc', .slice ma' mn' mc', .slice pa' pn' pc', .slice aa' an' ac', .slice ea' en' ec'] 33)) (w.heap.size + 1) #[.int .i64 kd, .string tn, .int .i64 op', .int .i64 lo', .int .i64 hi', .bool lw', .bool hg', .slice ca' cn' cc', .bool true, .string fr', .slice sa' sn' sc', .slice ma' mn' mc', .slice pa' pn' pc', .slice aa' an' ac', .slice ea' en' ec'] 33 by have h := Bx.new (w.alloc (.cells #[.int .i64 kd, .string tn, .int .i64 op, .int .i64 lo, .int .i64 hi, .bool lw, .bool hg, .slice ca cn cc, .bool false, .string fr, .slice sa sn sc, .slice ma mn mc, .slice pa pn pc, .slice aa an ac, .slice ea en ec] 33)) #[.int .i64 kd, .string tn, .int .i64 op', .int .i64 lo', .int .i64 hi', .bool lw', .bool hg', .slice ca' cn' cc', .bool true, .string fr', .slice sa' sn' sc', .slice ma' mn' mc', .slice pa' pn' pc', .slice aa' an' ac', .slice ea' en' ec'] 33; rw [World.size_alloc] at h; exact h)
  have q2 : (false != true) = true := rfl
  go_enter Tryz.func31, Tryz.ntmps31
  go_wp2_with fail
  go_ret
  exact ⟨rfl, HB0.out⟩
end Go.Proofs.YtgibjhljcdhppaaGreatDoor

/-
  The document's whether two types are the same: a comparison that differs.
-/
namespace Go.Proofs.YtgibjhljcdhppaaGreatDoor
open Go.RowKit
open Go.BigFrame
set_option linter.unusedVariables false
set_option linter.unusedSimpArgs false
set_option maxRecDepth 100000

set_option maxHeartbeats 16000000 in
theorem rSame_D3 (w : World) (kd op lo hi op' lo' hi' : Int) (tn fr fr' : ByteArray) (lw hg ext lw' hg' : Bool) (ca sa ma pa aa ea ca' sa' ma' pa' aa' ea' : Option Addr) (cn cc sn sc mn mc pn pc an ac en ec cn' cc' sn' sc' mn' mc' pn' pc' an' ac' en' ec' : Nat) (h3 : sEq fr fr' = false) :
    Calls Tryz.prog 31 #[.agg #[.int .i64 kd, .string tn, .int .i64 op, .int .i64 lo, .int .i64 hi, .bool lw, .bool hg, .slice ca cn cc, .bool ext, .string fr, .slice sa sn sc, .slice ma mn mc, .slice pa pn pc, .slice aa an ac, .slice ea en ec], .agg #[.int .i64 kd, .string tn, .int .i64 op', .int .i64 lo', .int .i64 hi', .bool lw', .bool hg', .slice ca' cn' cc', .bool ext, .string fr', .slice sa' sn' sc', .slice ma' mn' mc', .slice pa' pn' pc', .slice aa' an' ac', .slice ea' en' ec']] w fun e w' => e = .returned (.bool false) ∧ Below w.heap.size w w' := by
  have HB0 := Lib.hid (((Below.refl w.heap.size w).alloc (Nat.le_refl _) (.cells #[.int .i64 kd, .string tn, .int .i64 op, .int .i64 lo, .int .i64 hi, .bool lw, .bool hg, .slice ca cn cc, .bool ext, .string fr, .slice sa sn sc, .slice ma mn mc, .slice pa pn pc, .slice aa an ac, .slice ea en ec] 33)).alloc (by simp) (.cells #[.int .i64 kd, .string tn, .int .i64 op', .int .i64 lo', .int .i64 hi', .bool lw', .bool hg', .slice ca' cn' cc', .bool ext, .string fr', .slice sa' sn' sc', .slice ma' mn' mc', .slice pa' pn' pc', .slice aa' an' ac', .slice ea' en' ec'] 33))
  have HX1 := Lib.hid ((Bx.new w #[.int .i64 kd, .string tn, .int .i64 op, .int .i64 lo, .int .i64 hi, .bool lw, .bool hg, .slice ca cn cc, .bool ext, .string fr, .slice sa sn sc, .slice ma mn mc, .slice pa pn pc, .slice aa an ac, .slice ea en ec] 33).alloc (.cells #[.int .i64 kd, .string tn, .int .i64 op', .int .i64 lo', .int .i64 hi', .bool lw', .bool hg', .slice ca' cn' cc', .bool ext, .string fr', .slice sa' sn' sc', .slice ma' mn' mc', .slice pa' pn' pc', .slice aa' an' ac', .slice ea' en' ec'] 33))
  have HX2 := Lib.hid (show Bx ((w.alloc (.cells #[.int .i64 kd, .string tn, .int .i64 op, .int .i64 lo, .int .i64 hi, .bool lw, .bool hg, .slice ca cn cc, .bool ext, .string fr, .slice sa sn sc, .slice ma mn mc, .slice pa pn pc, .slice aa an ac, .slice ea en ec] 33)).alloc (.cells #[.int .i64 kd, .string tn, .int .i64 op', .int .i64 lo', .int .i64 hi', .bool lw', .bool hg', .slice ca' cn' cc', .bool ext, .string fr', .slice sa' sn' sc', .slice ma' mn' mc', .slice pa' pn' pc', .slice aa' an' ac', .slice ea' en' ec'] 33)) (w.heap.size + 1) #[.int .i64 kd, .string tn, .int .i64 op', .int .i64 lo', .int .i64 hi', .bool lw', .bool hg', .slice ca' cn' cc', .bool ext, .string fr', .slice sa' sn' sc', .slice ma' mn' mc', .slice pa' pn' pc', .slice aa' an' ac', .slice ea' en' ec'] 33 by have h := Bx.new (w.alloc (.cells #[.int .i64 kd, .string tn, .int .i64 op, .int .i64 lo, .int .i64 hi, .bool lw, .bool hg, .slice ca cn cc, .bool ext, .string fr, .slice sa sn sc, .slice ma mn mc, .slice pa pn pc, .slice aa an ac, .slice ea en ec] 33)) #[.int .i64 kd, .string tn, .int .i64 op', .int .i64 lo', .int .i64 hi', .bool lw', .bool hg', .slice ca' cn' cc', .bool ext, .string fr', .slice sa' sn' sc', .slice ma' mn' mc', .slice pa' pn' pc', .slice aa' an' ac', .slice ea' en' ec'] 33; rw [World.size_alloc] at h; exact h)
  have q3 : (fr.toList != fr'.toList) = true := by unfold bne; rw [show (fr.toList == fr'.toList) = false from h3]; rfl
  have qe3 : (fr.toList == fr'.toList) = false := h3
  clear h3
  go_enter Tryz.func31, Tryz.ntmps31
  go_wp2_with fail
  go_ret
  exact ⟨rfl, HB0.out⟩
end Go.Proofs.YtgibjhljcdhppaaGreatDoor
