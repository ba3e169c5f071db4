/-
  A bundle of texts, one behind the other: ShQ1, ShQ2, ShQ3.
-/
import Derived.Test.YtgibjhljcdhppaaGreatDoorJB
/-
  The library's EqualFunc at constraints, values, parts, types, over whatever function tells whether two are the same.
-/
namespace Go.Proofs.YtgibjhljcdhppaaGreatDoor
open Go.RowKit
set_option linter.unusedVariables false
set_option linter.unusedSimpArgs false
set_option maxRecDepth 100000


def PredN2 (w : World) (fn : FuncId) (n : Nat) (c1 c2 : Nat → List Value) (p : Nat → Bool) : Prop :=
  ∀ i, i < n → ∀ w', Below w.heap.size w w' → Calls Tryz.prog fn #[.agg (c1 i).toArray, .agg (c2 i).toArray] w' fun e w'' => e = .returned (.bool (p i)) ∧ Below w'.heap.size w' w''
def Ones (n k : Nat) (c : Nat → List Value) : Prop := ∀ i, i < n → (c i).length = k ∧ ∀ v ∈ c i, v.oneCell' = true
theorem info_qC : (Tryz.prog.info? 24).map (·.size) = some 6 := by kernel_rfl
set_option maxHeartbeats 8000000 in
theorem eqFnC_ok (B : Nat) (w : World) (a : Option Addr) (n cap : Nat) (c1 : Nat → List Value) (b : Option Addr) (m cap2 : Nat) (c2 : Nat → List Value) (fn : FuncId) (p : Nat → Bool) (hen0 : Enters Tryz.prog fn)
    (hB : B ≤ w.heap.size) (hr1 : RowAt B w a n cap 6 c1) (hr2 : RowAt B w b m cap2 6 c2) (h1 : Ones n 6 c1) (h2 : Ones m 6 c2) (hp : PredN2 w fn n c1 c2 p) :
    Calls Tryz.prog 105 #[.slice a n cap, .slice b m cap2, .func (.func fn) #[] #[]] w fun e w' => e = .returned (.bool (decide (n = m) && allN p n)) ∧ Below w.heap.size w w' := by
  have hen : ∀ (args : Array Value) (w : World), (callFunc fn args).run Tryz.prog w = .ok (.enter fn args) w := hen0
  have HROW1 := Lib.hid hr1
  have HROW2 := Lib.hid hr2
  have HO1 := Lib.hid h1
  have HO2 := Lib.hid h2
  have HP := Lib.hid hp
  have HBB := Lib.hid hB
  have hn : n ≤ 9223372036854775807 := by have := hr1.1; have := hr1.2.1; omega
  have HB0 := Lib.hid (Below.refl w.heap.size w)
  clear hr1 hr2 h1 h2 hp hB
  by_cases hnm : n = m
  rotate_left
  · have q0 : ((n : Int) != (m : Int)) = true := by simp [bne]; omega
    have HF := Lib.hid (show (decide (n = m) && allN p n) = false by simp [hnm])
    rw [HF.out]
    clear hnm
    go_enter Tryz.func105, Tryz.ntmps105
    go_wp2_with fail
    go_ret
    exact ⟨rfl, HB0.out⟩
  have q0 : ((n : Int) != (m : Int)) = false := by simp [bne]; omega
  have HF := Lib.hid (show (decide (n = m) && allN p n) = allN p n by simp [hnm])
  rw [HF.out]
  have HNM := Lib.hid hnm
  clear hnm
  go_enter Tryz.func105, Tryz.ntmps105
  go_wp2_with fail
  go_loopw [17] (fun iv wr => RelEv w n p iv wr) (fun iv _ => n - (Lib.intOf iv).toNat)
  case atStart => exact ⟨0, Nat.zero_le _, rfl, rfl, HB0.out⟩
  case round =>
    obtain ⟨i, hi, rfl, hall, hbel⟩ := hrel
    have HB := Lib.hid hbel
    have HA := Lib.hid hall
    have hsz := hbel.size
    clear hbel hall
    by_cases hlt : i < n
    · have q1 : decide ((i : Int) < (n : Int)) = true := decide_eq_true (by omega)
      have q1n : decide (i < n) = true := decide_eq_true hlt
      have hlm : i < m := by rw [← HNM.out]; exact hlt
      have q3 : IntKind.i64.wrap ((i : Int) + 1) = ((i + 1 : Nat) : Int) := wrap_succ hlt hn
      obtain ⟨g1, o1, hix1, hg1, hrd1⟩ := HROW1.out.read 22 24 Tryz.underlying22 (by kernel_rfl) Tryz.sizeOf24 hlt
      obtain ⟨g2, o2, hix2, hg2, hrd2⟩ := HROW2.out.read 22 24 Tryz.underlying22 (by kernel_rfl) Tryz.sizeOf24 hlm
      have O1 := Lib.hid (HO1.out i hlt)
      have O2 := Lib.hid (HO2.out i hlm)
      have hb1 : Below wr.heap.size wr (wr.alloc (.cells (c1 i).toArray 24)) := (Below.refl _ _).alloc (Nat.le_refl _) _
      have R1 := Lib.hid (show wr.rangeAt g1 o1 (c1 i) from hrd1 wr (HB.out.block g1 (by have := HBB.out; omega)))
      have R2 := Lib.hid (show (wr.alloc (.cells (c1 i).toArray 24)).rangeAt g2 o2 (c2 i) from hrd2 _ ((hb1.block g2 (by have := HBB.out; omega)).trans (HB.out.block g2 (by have := HBB.out; omega))))
      have X1 := Lib.hid ((Bx.new wr (c1 i).toArray 24).alloc (.cells (c2 i).toArray 24))
      have X2 := Lib.hid (show Bx _ (wr.heap.size + 1) _ _ from by have h9 := Bx.new (wr.alloc (.cells (c1 i).toArray 24)) (c2 i).toArray 24; rw [World.size_alloc] at h9; exact h9)
      have HBA := Lib.hid ((HB.out.trans (hb1.mono hsz)).alloc (Nat.le_trans hsz hb1.size) (.cells (c2 i).toArray 24))
      have HC := Lib.hid (HP.out i hlt)
      clear hb1 hrd1 hrd2
      cases hpi : p i with
      | true =>
        have HN := Lib.hid (allN_succ HA.out hpi)
        rw [hpi] at HC
        clear hpi
        go_wp2_with (first
        | (refine wpList_store_new rfl 24 (.tmp 8) (.tmp 21) rfl 6 _ (c1 i) O1.out.1 (by kernel_rfl) info_qC O1.out.2 rfl rfl ?_)
        | (refine wpList_store_new (w := wr.alloc (.cells (c1 i).toArray 24)) rfl 24 (.tmp 9) (.tmp 25) rfl 6 _ (c2 i) O2.out.1 (by kernel_rfl) info_qC O2.out.2 (by simp [Act.eval, World.size_alloc] <;> rfl) rfl ?_)
        | (refine wpList_load_mid rfl 24 (.tmp 20) rfl g1 o1 rfl (c1 i) _ R1.out Tryz.underlying24 rfl (by rw [info_qC, O1.out.1]) ?_)
        | (refine wpList_load_mid rfl 24 (.tmp 24) rfl g2 o2 rfl (c2 i) _ R2.out Tryz.underlying24 rfl (by rw [info_qC, O2.out.1]) ?_)
        | (refine wpList_load_mid rfl 24 (.tmp 8) rfl wr.heap.size 0 rfl (c1 i) _ X1.out.range Tryz.underlying24 rfl (by rw [info_qC, O1.out.1]) ?_)
        | (refine wpList_load_mid rfl 24 (.tmp 9) rfl (wr.heap.size + 1) 0 rfl (c2 i) _ X2.out.range Tryz.underlying24 rfl (by rw [info_qC, O2.out.1]) ?_))
        refine (HC.out _ HBA.out).mono ?_
        rintro e w1 ⟨rfl, hb⟩
        have HB1 := Lib.hid (HBA.out.trans (hb.mono HBA.out.size))
        clear hb
        go_wp2_with fail
        go_roundw
        case rel => exact ⟨i + 1, hlt, rfl, HN.out, HB1.out⟩
        case measure => simp only [Lib.intOf]; omega
      | false =>
        have HN := Lib.hid (allN_no hlt hpi)
        rw [hpi] at HC
        clear hpi
        go_wp2_with (first
        | (refine wpList_store_new rfl 24 (.tmp 8) (.tmp 21) rfl 6 _ (c1 i) O1.out.1 (by kernel_rfl) info_qC O1.out.2 rfl rfl ?_)
        | (refine wpList_store_new (w := wr.alloc (.cells (c1 i).toArray 24)) rfl 24 (.tmp 9) (.tmp 25) rfl 6 _ (c2 i) O2.out.1 (by kernel_rfl) info_qC O2.out.2 (by simp [Act.eval, World.size_alloc] <;> rfl) rfl ?_)
        | (refine wpList_load_mid rfl 24 (.tmp 20) rfl g1 o1 rfl (c1 i) _ R1.out Tryz.underlying24 rfl (by rw [info_qC, O1.out.1]) ?_)
        | (refine wpList_load_mid rfl 24 (.tmp 24) rfl g2 o2 rfl (c2 i) _ R2.out Tryz.underlying24 rfl (by rw [info_qC, O2.out.1]) ?_)
        | (refine wpList_load_mid rfl 24 (.tmp 8) rfl wr.heap.size 0 rfl (c1 i) _ X1.out.range Tryz.underlying24 rfl (by rw [info_qC, O1.out.1]) ?_)
        | (refine wpList_load_mid rfl 24 (.tmp 9) rfl (wr.heap.size + 1) 0 rfl (c2 i) _ X2.out.range Tryz.underlying24 rfl (by rw [info_qC, O2.out.1]) ?_))
        refine (HC.out _ HBA.out).mono ?_
        rintro e w1 ⟨rfl, hb⟩
        have HB1 := Lib.hid (HBA.out.trans (hb.mono HBA.out.size))
        clear hb
        go_wp2_with fail
        go_ret
        refine ⟨?_, HB1.out⟩
        rw [HN.out]
        rfl
    · have q1 : decide ((i : Int) < (n : Int)) = false := decide_eq_false (by omega)
      have q1n : decide (i < n) = false := decide_eq_false hlt
      obtain rfl : i = n := by omega
      go_wp2_with fail
      go_ret
      refine ⟨?_, HB.out⟩
      rw [HA.out]
      rfl
end Go.Proofs.YtgibjhljcdhppaaGreatDoor

/-
  The library's EqualFunc at constraints, values, parts, types, over whatever function tells whether two are the same.
-/
namespace Go.Proofs.YtgibjhljcdhppaaGreatDoor
open Go.RowKit
set_option linter.unusedVariables false
set_option linter.unusedSimpArgs false
set_option maxRecDepth 100000


theorem info_qV : (Tryz.prog.info? 58).map (·.size) = some 5 := by kernel_rfl
set_option maxHeartbeats 8000000 in
theorem eqFnV_ok (B : Nat) (w : World) (a : Option Addr) (n cap : Nat) (c1 : Nat → List Value) (b : Option Addr) (m cap2 : Nat) (c2 : Nat → List Value) (fn : FuncId) (p : Nat → Bool) (hen0 : Enters Tryz.prog fn)
    (hB : B ≤ w.heap.size) (hr1 : RowAt B w a n cap 5 c1) (hr2 : RowAt B w b m cap2 5 c2) (h1 : Ones n 5 c1) (h2 : Ones m 5 c2) (hp : PredN2 w fn n c1 c2 p) :
    Calls Tryz.prog 106 #[.slice a n cap, .slice b m cap2, .func (.func fn) #[] #[]] w fun e w' => e = .returned (.bool (decide (n = m) && allN p n)) ∧ Below w.heap.size w w' := by
  have hen : ∀ (args : Array Value) (w : World), (callFunc fn args).run Tryz.prog w = .ok (.enter fn args) w := hen0
  have HROW1 := Lib.hid hr1
  have HROW2 := Lib.hid hr2
  have HO1 := Lib.hid h1
  have HO2 := Lib.hid h2
  have HP := Lib.hid hp
  have HBB := Lib.hid hB
  have hn : n ≤ 9223372036854775807 := by have := hr1.1; have := hr1.2.1; omega
  have HB0 := Lib.hid (Below.refl w.heap.size w)
  clear hr1 hr2 h1 h2 hp hB
  by_cases hnm : n = m
  rotate_left
  · have q0 : ((n : Int) != (m : Int)) = true := by simp [bne]; omega
    have HF := Lib.hid (show (decide (n = m) && allN p n) = false by simp [hnm])
    rw [HF.out]
    clear hnm
    go_enter Tryz.func106, Tryz.ntmps106
    go_wp2_with fail
    go_ret
    exact ⟨rfl, HB0.out⟩
  have q0 : ((n : Int) != (m : Int)) = false := by simp [bne]; omega
  have HF := Lib.hid (show (decide (n = m) && allN p n) = allN p n by simp [hnm])
  rw [HF.out]
  have HNM := Lib.hid hnm
  clear hnm
  go_enter Tryz.func106, Tryz.ntmps106
  go_wp2_with fail
  go_loopw [17] (fun iv wr => RelEv w n p iv wr) (fun iv _ => n - (Lib.intOf iv).toNat)
  case atStart => exact ⟨0, Nat.zero_le _, rfl, rfl, HB0.out⟩
  case round =>
    obtain ⟨i, hi, rfl, hall, hbel⟩ := hrel
    have HB := Lib.hid hbel
    have HA := Lib.hid hall
    have hsz := hbel.size
    clear hbel hall
    by_cases hlt : i < n
    · have q1 : decide ((i : Int) < (n : Int)) = true := decide_eq_true (by omega)
      have q1n : decide (i < n) = true := decide_eq_true hlt
      have hlm : i < m := by rw [← HNM.out]; exact hlt
      have q3 : IntKind.i64.wrap ((i : Int) + 1) = ((i + 1 : Nat) : Int) := wrap_succ hlt hn
      obtain ⟨g1, o1, hix1, hg1, hrd1⟩ := HROW1.out.read 53 58 Tryz.underlying53 (by kernel_rfl) Tryz.sizeOf58 hlt
      obtain ⟨g2, o2, hix2, hg2, hrd2⟩ := HROW2.out.read 53 58 Tryz.underlying53 (by kernel_rfl) Tryz.sizeOf58 hlm
      have O1 := Lib.hid (HO1.out i hlt)
      have O2 := Lib.hid (HO2.out i hlm)
      have hb1 : Below wr.heap.size wr (wr.alloc (.cells (c1 i).toArray 58)) := (Below.refl _ _).alloc (Nat.le_refl _) _
      have R1 := Lib.hid (show wr.rangeAt g1 o1 (c1 i) from hrd1 wr (HB.out.block g1 (by have := HBB.out; omega)))
      have R2 := Lib.hid (show (wr.alloc (.cells (c1 i).toArray 58)).rangeAt g2 o2 (c2 i) from hrd2 _ ((hb1.block g2 (by have := HBB.out; omega)).trans (HB.out.block g2 (by have := HBB.out; omega))))
      have X1 := Lib.hid ((Bx.new wr (c1 i).toArray 58).alloc (.cells (c2 i).toArray 58))
      have X2 := Lib.hid (show Bx _ (wr.heap.size + 1) _ _ from by have h9 := Bx.new (wr.alloc (.cells (c1 i).toArray 58)) (c2 i).toArray 58; rw [World.size_alloc] at h9; exact h9)
      have HBA := Lib.hid ((HB.out.trans (hb1.mono hsz)).alloc (Nat.le_trans hsz hb1.size) (.cells (c2 i).toArray 58))
      have HC := Lib.hid (HP.out i hlt)
      clear hb1 hrd1 hrd2
      cases hpi : p i with
      | true =>
        have HN := Lib.hid (allN_succ HA.out hpi)
        rw [hpi] at HC
        clear hpi
        go_wp2_with (first
        | (refine wpList_store_new rfl 58 (.tmp 8) (.tmp 21) rfl 5 _ (c1 i) O1.out.1 (by kernel_rfl) info_qV O1.out.2 rfl rfl ?_)
        | (refine wpList_store_new (w := wr.alloc (.cells (c1 i).toArray 58)) rfl 58 (.tmp 9) (.tmp 25) rfl 5 _ (c2 i) O2.out.1 (by kernel_rfl) info_qV O2.out.2 (by simp [Act.eval, World.size_alloc] <;> rfl) rfl ?_)
        | (refine wpList_load_mid rfl 58 (.tmp 20) rfl g1 o1 rfl (c1 i) _ R1.out Tryz.underlying58 rfl (by rw [info_qV, O1.out.1]) ?_)
        | (refine wpList_load_mid rfl 58 (.tmp 24) rfl g2 o2 rfl (c2 i) _ R2.out Tryz.underlying58 rfl (by rw [info_qV, O2.out.1]) ?_)
        | (refine wpList_load_mid rfl 58 (.tmp 8) rfl wr.heap.size 0 rfl (c1 i) _ X1.out.range Tryz.underlying58 rfl (by rw [info_qV, O1.out.1]) ?_)
        | (refine wpList_load_mid rfl 58 (.tmp 9) rfl (wr.heap.size + 1) 0 rfl (c2 i) _ X2.out.range Tryz.underlying58 rfl (by rw [info_qV, O2.out.1]) ?_))
        refine (HC.out _ HBA.out).mono ?_
        rintro e w1 ⟨rfl, hb⟩
        have HB1 := Lib.hid (HBA.out.trans (hb.mono HBA.out.size))
        clear hb
        go_wp2_with fail
        go_roundw
        case rel => exact ⟨i + 1, hlt, rfl, HN.out, HB1.out⟩
        case measure => simp only [Lib.intOf]; omega
      | false =>
        have HN := Lib.hid (allN_no hlt hpi)
        rw [hpi] at HC
        clear hpi
        go_wp2_with (first
        | (refine wpList_store_new rfl 58 (.tmp 8) (.tmp 21) rfl 5 _ (c1 i) O1.out.1 (by kernel_rfl) info_qV O1.out.2 rfl rfl ?_)
        | (refine wpList_store_new (w := wr.alloc (.cells (c1 i).toArray 58)) rfl 58 (.tmp 9) (.tmp 25) rfl 5 _ (c2 i) O2.out.1 (by kernel_rfl) info_qV O2.out.2 (by simp [Act.eval, World.size_alloc] <;> rfl) rfl ?_)
        | (refine wpList_load_mid rfl 58 (.tmp 20) rfl g1 o1 rfl (c1 i) _ R1.out Tryz.underlying58 rfl (by rw [info_qV, O1.out.1]) ?_)
        | (refine wpList_load_mid rfl 58 (.tmp 24) rfl g2 o2 rfl (c2 i) _ R2.out Tryz.underlying58 rfl (by rw [info_qV, O2.out.1]) ?_)
        | (refine wpList_load_mid rfl 58 (.tmp 8) rfl wr.heap.size 0 rfl (c1 i) _ X1.out.range Tryz.underlying58 rfl (by rw [info_qV, O1.out.1]) ?_)
        | (refine wpList_load_mid rfl 58 (.tmp 9) rfl (wr.heap.size + 1) 0 rfl (c2 i) _ X2.out.range Tryz.underlying58 rfl (by rw [info_qV, O2.out.1]) ?_))
        refine (HC.out _ HBA.out).mono ?_
        rintro e w1 ⟨rfl, hb⟩
        have HB1 := Lib.hid (HBA.out.trans (hb.mono HBA.out.size))
        clear hb
        go_wp2_with fail
        go_ret
        refine ⟨?_, HB1.out⟩
        rw [HN.out]
        rfl
    · have q1 : decide ((i : Int) < (n : Int)) = false := decide_eq_false (by omega)
      have q1n : decide (i < n) = false := decide_eq_false hlt
      obtain rfl : i = n := by omega
      go_wp2_with fail
      go_ret
      refine ⟨?_, HB.out⟩
      rw [HA.out]
      rfl
theorem info_qT : (Tryz.prog.info? 33).map (·.size) = some 15 := by kernel_rfl
set_option maxHeartbeats 8000000 in
theorem eqFnT_ok (B : Nat) (w : World) (a : Option Addr) (n cap : Nat) (c1 : Nat → List Value) (b : Option Addr) (m cap2 : Nat) (c2 : Nat → List Value) (fn : FuncId) (p : Nat → Bool) (hen0 : Enters Tryz.prog fn)
    (hB : B ≤ w.heap.size) (hr1 : RowAt B w a n cap 15 c1) (hr2 : RowAt B w b m cap2 15 c2) (h1 : Ones n 15 c1) (h2 : Ones m 15 c2) (hp : PredN2 w fn n c1 c2 p) :
    Calls Tryz.prog 58 #[.slice a n cap, .slice b m cap2, .func (.func fn) #[] #[]] w fun e w' => e = .returned (.bool (decide (n = m) && allN p n)) ∧ Below w.heap.size w w' := by
  have hen : ∀ (args : Array Value) (w : World), (callFunc fn args).run Tryz.prog w = .ok (.enter fn args) w := hen0
  have HROW1 := Lib.hid hr1
  have HROW2 := Lib.hid hr2
  have HO1 := Lib.hid h1
  have HO2 := Lib.hid h2
  have HP := Lib.hid hp
  have HBB := Lib.hid hB
  have hn : n ≤ 9223372036854775807 := by have := hr1.1; have := hr1.2.1; omega
  have HB0 := Lib.hid (Below.refl w.heap.size w)
  clear hr1 hr2 h1 h2 hp hB
  by_cases hnm : n = m
  rotate_left
  · have q0 : ((n : Int) != (m : Int)) = true := by simp [bne]; omega
    have HF := Lib.hid (show (decide (n = m) && allN p n) = false by simp [hnm])
    rw [HF.out]
    clear hnm
    go_enter Tryz.func58, Tryz.ntmps58
    go_wp2_with fail
    go_ret
    exact ⟨rfl, HB0.out⟩
  have q0 : ((n : Int) != (m : Int)) = false := by simp [bne]; omega
  have HF := Lib.hid (show (decide (n = m) && allN p n) = allN p n by simp [hnm])
  rw [HF.out]
  have HNM := Lib.hid hnm
  clear hnm
  go_enter Tryz.func58, Tryz.ntmps58
  go_wp2_with fail
  go_loopw [17] (fun iv wr => RelEv w n p iv wr) (fun iv _ => n - (Lib.intOf iv).toNat)
  case atStart => exact ⟨0, Nat.zero_le _, rfl, rfl, HB0.out⟩
  case round =>
    obtain ⟨i, hi, rfl, hall, hbel⟩ := hrel
    have HB := Lib.hid hbel
    have HA := Lib.hid hall
    have hsz := hbel.size
    clear hbel hall
    by_cases hlt : i < n
    · have q1 : decide ((i : Int) < (n : Int)) = true := decide_eq_true (by omega)
      have q1n : decide (i < n) = true := decide_eq_true hlt
      have hlm : i < m := by rw [← HNM.out]; exact hlt
      have q3 : IntKind.i64.wrap ((i : Int) + 1) = ((i + 1 : Nat) : Int) := wrap_succ hlt hn
      obtain ⟨g1, o1, hix1, hg1, hrd1⟩ := HROW1.out.read 31 33 Tryz.underlying31 (by kernel_rfl) Tryz.sizeOf33 hlt
      obtain ⟨g2, o2, hix2, hg2, hrd2⟩ := HROW2.out.read 31 33 Tryz.underlying31 (by kernel_rfl) Tryz.sizeOf33 hlm
      have O1 := Lib.hid (HO1.out i hlt)
      have O2 := Lib.hid (HO2.out i hlm)
      have hb1 : Below wr.heap.size wr (wr.alloc (.cells (c1 i).toArray 33)) := (Below.refl _ _).alloc (Nat.le_refl _) _
      have R1 := Lib.hid (show wr.rangeAt g1 o1 (c1 i) from hrd1 wr (HB.out.block g1 (by have := HBB.out; omega)))
      have R2 := Lib.hid (show (wr.alloc (.cells (c1 i).toArray 33)).rangeAt g2 o2 (c2 i) from hrd2 _ ((hb1.block g2 (by have := HBB.out; omega)).trans (HB.out.block g2 (by have := HBB.out; omega))))
      have X1 := Lib.hid ((Bx.new wr (c1 i).toArray 33).alloc (.cells (c2 i).toArray 33))
      have X2 := Lib.hid (show Bx _ (wr.heap.size + 1) _ _ from by have h9 := Bx.new (wr.alloc (.cells (c1 i).toArray 33)) (c2 i).toArray 33; rw [World.size_alloc] at h9; exact h9)
      have HBA := Lib.hid ((HB.out.trans (hb1.mono hsz)).alloc (Nat.le_trans hsz hb1.size) (.cells (c2 i).toArray 33))
      have HC := Lib.hid (HP.out i hlt)
      clear hb1 hrd1 hrd2
      cases hpi : p i with
      | true =>
        have HN := Lib.hid (allN_succ HA.out hpi)
        rw [hpi] at HC
        clear hpi
        go_wp2_with (first
        | (refine wpList_store_new rfl 33 (.tmp 8) (.tmp 21) rfl 15 _ (c1 i) O1.out.1 (by kernel_rfl) info_qT O1.out.2 rfl rfl ?_)
        | (refine wpList_store_new (w := wr.alloc (.cells (c1 i).toArray 33)) rfl 33 (.tmp 9) (.tmp 25) rfl 15 _ (c2 i) O2.out.1 (by kernel_rfl) info_qT O2.out.2 (by simp [Act.eval, World.size_alloc] <;> rfl) rfl ?_)
        | (refine wpList_load_mid rfl 33 (.tmp 20) rfl g1 o1 rfl (c1 i) _ R1.out Tryz.underlying33 rfl (by rw [info_qT, O1.out.1]) ?_)
        | (refine wpList_load_mid rfl 33 (.tmp 24) rfl g2 o2 rfl (c2 i) _ R2.out Tryz.underlying33 rfl (by rw [info_qT, O2.out.1]) ?_)
        | (refine wpList_load_mid rfl 33 (.tmp 8) rfl wr.heap.size 0 rfl (c1 i) _ X1.out.range Tryz.underlying33 rfl (by rw [info_qT, O1.out.1]) ?_)
        | (refine wpList_load_mid rfl 33 (.tmp 9) rfl (wr.heap.size + 1) 0 rfl (c2 i) _ X2.out.range Tryz.underlying33 rfl (by rw [info_qT, O2.out.1]) ?_))
        refine (HC.out _ HBA.out).mono ?_
        rintro e w1 ⟨rfl, hb⟩
        have HB1 := Lib.hid (HBA.out.trans (hb.mono HBA.out.size))
        clear hb
        go_wp2_with fail
        go_roundw
        case rel => exact ⟨i + 1, hlt, rfl, HN.out, HB1.out⟩
        case measure => simp only [Lib.intOf]; omega
      | false =>
        have HN := Lib.hid (allN_no hlt hpi)
        rw [hpi] at HC
        clear hpi
        go_wp2_with (first
        | (refine wpList_store_new rfl 33 (.tmp 8) (.tmp 21) rfl 15 _ (c1 i) O1.out.1 (by kernel_rfl) info_qT O1.out.2 rfl rfl ?_)
        | (refine wpList_store_new (w := wr.alloc (.cells (c1 i).toArray 33)) rfl 33 (.tmp 9) (.tmp 25) rfl 15 _ (c2 i) O2.out.1 (by kernel_rfl) info_qT O2.out.2 (by simp [Act.eval, World.size_alloc] <;> rfl) rfl ?_)
        | (refine wpList_load_mid rfl 33 (.tmp 20) rfl g1 o1 rfl (c1 i) _ R1.out Tryz.underlying33 rfl (by rw [info_qT, O1.out.1]) ?_)
        | (refine wpList_load_mid rfl 33 (.tmp 24) rfl g2 o2 rfl (c2 i) _ R2.out Tryz.underlying33 rfl (by rw [info_qT, O2.out.1]) ?_)
        | (refine wpList_load_mid rfl 33 (.tmp 8) rfl wr.heap.size 0 rfl (c1 i) _ X1.out.range Tryz.underlying33 rfl (by rw [info_qT, O1.out.1]) ?_)
        | (refine wpList_load_mid rfl 33 (.tmp 9) rfl (wr.heap.size + 1) 0 rfl (c2 i) _ X2.out.range Tryz.underlying33 rfl (by rw [info_qT, O2.out.1]) ?_))
        refine (HC.out _ HBA.out).mono ?_
        rintro e w1 ⟨rfl, hb⟩
        have HB1 := Lib.hid (HBA.out.trans (hb.mono HBA.out.size))
        clear hb
        go_wp2_with fail
        go_ret
        refine ⟨?_, HB1.out⟩
        rw [HN.out]
        rfl
    · have q1 : decide ((i : Int) < (n : Int)) = false := decide_eq_false (by omega)
      have q1n : decide (i < n) = false := decide_eq_false hlt
      obtain rfl : i = n := by omega
      go_wp2_with fail
      go_ret
      refine ⟨?_, HB.out⟩
      rw [HA.out]
      rfl
end Go.Proofs.YtgibjhljcdhppaaGreatDoor

/-
  The library's EqualFunc at constraints, values, parts, types, over whatever function tells whether two are the same.
-/
namespace Go.Proofs.YtgibjhljcdhppaaGreatDoor
open Go.RowKit
set_option linter.unusedVariables false
set_option linter.unusedSimpArgs false
set_option maxRecDepth 100000


theorem info_qP : (Tryz.prog.info? 55).map (·.size) = some 18 := by kernel_rfl
set_option maxHeartbeats 8000000 in
theorem eqFnP_ok (B : Nat) (w : World) (a : Option Addr) (n cap : Nat) (c1 : Nat → List Value) (b : Option Addr) (m cap2 : Nat) (c2 : Nat → List Value) (fn : FuncId) (p : Nat → Bool) (hen0 : Enters Tryz.prog fn)
    (hB : B ≤ w.heap.size) (hr1 : RowAt B w a n cap 18 c1) (hr2 : RowAt B w b m cap2 18 c2) (h1 : Ones n 18 c1) (h2 : Ones m 18 c2) (hp : PredN2 w fn n c1 c2 p) :
    Calls Tryz.prog 56 #[.slice a n cap, .slice b m cap2, .func (.func fn) #[] #[]] w fun e w' => e = .returned (.bool (decide (n = m) && allN p n)) ∧ Below w.heap.size w w' := by
  have hen : ∀ (args : Array Value) (w : World), (callFunc fn args).run Tryz.prog w = .ok (.enter fn args) w := hen0
  have HROW1 := Lib.hid hr1
  have HROW2 := Lib.hid hr2
  have HO1 := Lib.hid h1
  have HO2 := Lib.hid h2
  have HP := Lib.hid hp
  have HBB := Lib.hid hB
  have hn : n ≤ 9223372036854775807 := by have := hr1.1; have := hr1.2.1; omega
  have HB0 := Lib.hid (Below.refl w.heap.size w)
  clear hr1 hr2 h1 h2 hp hB
  by_cases hnm : n = m
  rotate_left
  · have q0 : ((n : Int) != (m : Int)) = true := by simp [bne]; omega
    have HF := Lib.hid (show (decide (n = m) && allN p n) = false by simp [hnm])
    rw [HF.out]
    clear hnm
    go_enter Tryz.func56, Tryz.ntmps56
    go_wp2_with fail
    go_ret
    exact ⟨rfl, HB0.out⟩
  have q0 : ((n : Int) != (m : Int)) = false := by simp [bne]; omega
  have HF := Lib.hid (show (decide (n = m) && allN p n) = allN p n by simp [hnm])
  rw [HF.out]
  have HNM := Lib.hid hnm
  clear hnm
  go_enter Tryz.func56, Tryz.ntmps56
  go_wp2_with fail
  go_loopw [17] (fun iv wr => RelEv w n p iv wr) (fun iv _ => n - (Lib.intOf iv).toNat)
  case atStart => exact ⟨0, Nat.zero_le _, rfl, rfl, HB0.out⟩
  case round =>
    obtain ⟨i, hi, rfl, hall, hbel⟩ := hrel
    have HB := Lib.hid hbel
    have HA := Lib.hid hall
    have hsz := hbel.size
    clear hbel hall
    by_cases hlt : i < n
    · have q1 : decide ((i : Int) < (n : Int)) = true := decide_eq_true (by omega)
      have q1n : decide (i < n) = true := decide_eq_true hlt
      have hlm : i < m := by rw [← HNM.out]; exact hlt
      have q3 : IntKind.i64.wrap ((i : Int) + 1) = ((i + 1 : Nat) : Int) := wrap_succ hlt hn
      obtain ⟨g1, o1, hix1, hg1, hrd1⟩ := HROW1.out.read 30 55 Tryz.underlying30 (by kernel_rfl) Tryz.sizeOf55 hlt
      obtain ⟨g2, o2, hix2, hg2, hrd2⟩ := HROW2.out.read 30 55 Tryz.underlying30 (by kernel_rfl) Tryz.sizeOf55 hlm
      have O1 := Lib.hid (HO1.out i hlt)
      have O2 := Lib.hid (HO2.out i hlm)
      have hb1 : Below wr.heap.size wr (wr.alloc (.cells (c1 i).toArray 55)) := (Below.refl _ _).alloc (Nat.le_refl _) _
      have R1 := Lib.hid (show wr.rangeAt g1 o1 (c1 i) from hrd1 wr (HB.out.block g1 (by have := HBB.out; omega)))
      have R2 := Lib.hid (show (wr.alloc (.cells (c1 i).toArray 55)).rangeAt g2 o2 (c2 i) from hrd2 _ ((hb1.block g2 (by have := HBB.out; omega)).trans (HB.out.block g2 (by have := HBB.out; omega))))
      have X1 := Lib.hid ((Bx.new wr (c1 i).toArray 55).alloc (.cells (c2 i).toArray 55))
      have X2 := Lib.hid (show Bx _ (wr.heap.size + 1) _ _ from by have h9 := Bx.new (wr.alloc (.cells (c1 i).toArray 55)) (c2 i).toArray 55; rw [World.size_alloc] at h9; exact h9)
      have HBA := Lib.hid ((HB.out.trans (hb1.mono hsz)).alloc (Nat.le_trans hsz hb1.size) (.cells (c2 i).toArray 55))
      have HC := Lib.hid (HP.out i hlt)
      clear hb1 hrd1 hrd2
      cases hpi : p i with
      | true =>
        have HN := Lib.hid (allN_succ HA.out hpi)
        rw [hpi] at HC
        clear hpi
        go_wp2_with (first
        | (refine wpList_store_new rfl 55 (.tmp 8) (.tmp 21) rfl 18 _ (c1 i) O1.out.1 (by kernel_rfl) info_qP O1.out.2 rfl rfl ?_)
        | (refine wpList_store_new (w := wr.alloc (.cells (c1 i).toArray 55)) rfl 55 (.tmp 9) (.tmp 25) rfl 18 _ (c2 i) O2.out.1 (by kernel_rfl) info_qP O2.out.2 (by simp [Act.eval, World.size_alloc] <;> rfl) rfl ?_)
        | (refine wpList_load_mid rfl 55 (.tmp 20) rfl g1 o1 rfl (c1 i) _ R1.out Tryz.underlying55 rfl (by rw [info_qP, O1.out.1]) ?_)
        | (refine wpList_load_mid rfl 55 (.tmp 24) rfl g2 o2 rfl (c2 i) _ R2.out Tryz.underlying55 rfl (by rw [info_qP, O2.out.1]) ?_)
        | (refine wpList_load_mid rfl 55 (.tmp 8) rfl wr.heap.size 0 rfl (c1 i) _ X1.out.range Tryz.underlying55 rfl (by rw [info_qP, O1.out.1]) ?_)
        | (refine wpList_load_mid rfl 55 (.tmp 9) rfl (wr.heap.size + 1) 0 rfl (c2 i) _ X2.out.range Tryz.underlying55 rfl (by rw [info_qP, O2.out.1]) ?_))
        refine (HC.out _ HBA.out).mono ?_
        rintro e w1 ⟨rfl, hb⟩
        have HB1 := Lib.hid (HBA.out.trans (hb.mono HBA.out.size))
        clear hb
        go_wp2_with fail
        go_roundw
        case rel => exact ⟨i + 1, hlt, rfl, HN.out, HB1.out⟩
        case measure => simp only [Lib.intOf]; omega
      | false =>
        have HN := Lib.hid (allN_no hlt hpi)
        rw [hpi] at HC
        clear hpi
        go_wp2_with (first
        | (refine wpList_store_new rfl 55 (.tmp 8) (.tmp 21) rfl 18 _ (c1 i) O1.out.1 (by kernel_rfl) info_qP O1.out.2 rfl rfl ?_)
        | (refine wpList_store_new (w := wr.alloc (.cells (c1 i).toArray 55)) rfl 55 (.tmp 9) (.tmp 25) rfl 18 _ (c2 i) O2.out.1 (by kernel_rfl) info_qP O2.out.2 (by simp [Act.eval, World.size_alloc] <;> rfl) rfl ?_)
        | (refine wpList_load_mid rfl 55 (.tmp 20) rfl g1 o1 rfl (c1 i) _ R1.out Tryz.underlying55 rfl (by rw [info_qP, O1.out.1]) ?_)
        | (refine wpList_load_mid rfl 55 (.tmp 24) rfl g2 o2 rfl (c2 i) _ R2.out Tryz.underlying55 rfl (by rw [info_qP, O2.out.1]) ?_)
        | (refine wpList_load_mid rfl 55 (.tmp 8) rfl wr.heap.size 0 rfl (c1 i) _ X1.out.range Tryz.underlying55 rfl (by rw [info_qP, O1.out.1]) ?_)
        | (refine wpList_load_mid rfl 55 (.tmp 9) rfl (wr.heap.size + 1) 0 rfl (c2 i) _ X2.out.range Tryz.underlying55 rfl (by rw [info_qP, O2.out.1]) ?_))
        refine (HC.out _ HBA.out).mono ?_
        rintro e w1 ⟨rfl, hb⟩
        have HB1 := Lib.hid (HBA.out.trans (hb.mono HBA.out.size))
        clear hb
        go_wp2_with fail
        go_ret
        refine ⟨?_, HB1.out⟩
        rw [HN.out]
        rfl
    · have q1 : decide ((i : Int) < (n : Int)) = false := decide_eq_false (by omega)
      have q1n : decide (i < n) = false := decide_eq_false hlt
      obtain rfl : i = n := by omega
      go_wp2_with fail
      go_ret
      refine ⟨?_, HB.out⟩
      rw [HA.out]
      rfl
end Go.Proofs.YtgibjhljcdhppaaGreatDoor
