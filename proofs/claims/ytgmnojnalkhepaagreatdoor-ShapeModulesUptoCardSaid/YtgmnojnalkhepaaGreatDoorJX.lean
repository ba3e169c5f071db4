/-
  A bundle of texts, one behind the other: ShY4A, ShY4B, ShY4C, ShY4D, ShY4E, ShY4F, ShY4G.
-/
import Derived.Test.YtgmnojnalkhepaaGreatDoorJW
import Derived.Test.YtgmnojnalkhepaaGreatDoorJB
/-
  The document's whether no fields of a type are set but some: 'only', as it is asked.
-/
namespace Go.Proofs.YtgmnojnalkhepaaGreatDoor
open Go.RowKit
set_option linter.unusedVariables false
set_option linter.unusedSimpArgs false
set_option maxRecDepth 100000

set_option maxHeartbeats 16000000 in
theorem only_A (cs : List Value) (op : Int) (tn fr : ByteArray) (ext : Bool) (sa ma pa aa ea : Option Addr) (sn sc mn mc pn pc an ac en ec : Nat) (w : World)
    (c1 : cs[1]? = some (.string tn)) (c2 : cs[2]? = some (.int .i64 op)) (c8 : cs[8]? = some (.bool ext)) (c9 : cs[9]? = some (.string fr)) (c10 : cs[10]? = some (.slice sa sn sc)) (c11 : cs[11]? = some (.slice ma mn mc)) (c12 : cs[12]? = some (.slice pa pn pc)) (c13 : cs[13]? = some (.slice aa an ac)) (c14 : cs[14]? = some (.slice ea en ec))
    (h4 : sn + mn ≤ 1000000000000000) (h5 : pn + an ≤ 1000000000000000) :
    Calls Tryz.prog 67 #[.agg cs.toArray, .bool false, .bool false, .bool false, .bool false, .bool false, .bool false, .bool false] w fun e w' => e = .returned (.bool ((false || decide (tn.size = 0)) && ((false || decide (op = 0)) && ((false || !ext) && ((false || decide (fr.size = 0)) && ((false || decide (sn + mn = 0)) && ((false || decide (pn + an = 0)) && ((false || decide (en = 0)))))))))) ∧ Below w.heap.size w w' := by
  have HB0 := Lib.hid ((Below.refl w.heap.size w).alloc (Nat.le_refl _) (.cells cs.toArray 39))
  have HX := Lib.hid (Bx.new w cs.toArray 39)
  have d1 : (w.alloc (.cells cs.toArray 39)).cell? ⟨w.heap.size, 1, none⟩ = some (.string tn) := HX.out.cell 1 (by rw [List.getElem?_toArray]; exact c1)
  have d2 : (w.alloc (.cells cs.toArray 39)).cell? ⟨w.heap.size, 2, none⟩ = some (.int .i64 op) := HX.out.cell 2 (by rw [List.getElem?_toArray]; exact c2)
  have d8 : (w.alloc (.cells cs.toArray 39)).cell? ⟨w.heap.size, 8, none⟩ = some (.bool ext) := HX.out.cell 8 (by rw [List.getElem?_toArray]; exact c8)
  have d9 : (w.alloc (.cells cs.toArray 39)).cell? ⟨w.heap.size, 9, none⟩ = some (.string fr) := HX.out.cell 9 (by rw [List.getElem?_toArray]; exact c9)
  have d10 : (w.alloc (.cells cs.toArray 39)).cell? ⟨w.heap.size, 10, none⟩ = some (.slice sa sn sc) := HX.out.cell 10 (by rw [List.getElem?_toArray]; exact c10)
  have d11 : (w.alloc (.cells cs.toArray 39)).cell? ⟨w.heap.size, 11, none⟩ = some (.slice ma mn mc) := HX.out.cell 11 (by rw [List.getElem?_toArray]; exact c11)
  have d12 : (w.alloc (.cells cs.toArray 39)).cell? ⟨w.heap.size, 12, none⟩ = some (.slice pa pn pc) := HX.out.cell 12 (by rw [List.getElem?_toArray]; exact c12)
  have d13 : (w.alloc (.cells cs.toArray 39)).cell? ⟨w.heap.size, 13, none⟩ = some (.slice aa an ac) := HX.out.cell 13 (by rw [List.getElem?_toArray]; exact c13)
  have d14 : (w.alloc (.cells cs.toArray 39)).cell? ⟨w.heap.size, 14, none⟩ = some (.slice ea en ec) := HX.out.cell 14 (by rw [List.getElem?_toArray]; exact c14)
  clear HX c1 c2 c8 c9 c10 c11 c12 c13 c14
  obtain ⟨z0, hz0⟩ : ∃ z, decide (tn.size = 0) = z := ⟨_, rfl⟩
  obtain ⟨z1, hz1⟩ : ∃ z, decide (op = 0) = z := ⟨_, rfl⟩
  obtain ⟨z3, hz3⟩ : ∃ z, decide (fr.size = 0) = z := ⟨_, rfl⟩
  obtain ⟨n4, hn4⟩ : ∃ n, sn + mn = n := ⟨_, rfl⟩
  obtain ⟨n5, hn5⟩ : ∃ n, pn + an = n := ⟨_, rfl⟩
  have q4 : IntKind.i64.wrap ((sn : Int) + (mn : Int)) = (n4 : Int) := (wrap_ok (x := (sn : Int) + (mn : Int)) (by unfold I64; omega)).trans (by omega)
  have q5 : IntKind.i64.wrap ((pn : Int) + (an : Int)) = (n5 : Int) := (wrap_ok (x := (pn : Int) + (an : Int)) (by unfold I64; omega)).trans (by omega)
  rw [hn4, hn5]
  obtain ⟨z4, hz4⟩ : ∃ z, decide (n4 = 0) = z := ⟨_, rfl⟩
  obtain ⟨z5, hz5⟩ : ∃ z, decide (n5 = 0) = z := ⟨_, rfl⟩
  obtain ⟨z6, hz6⟩ : ∃ z, decide (en = 0) = z := ⟨_, rfl⟩
  rw [hz0, hz1, hz3, hz4, hz5, hz6]
  have p0 : tn.toList.isEmpty = z0 := by rw [← hz0, ← Bool.not_not tn.toList.isEmpty, empty_size]; simp
  have p1 : (op == 0) = z1 := by rw [← hz1]; by_cases e : op = 0 <;> simp [e]
  have p3 : fr.toList.isEmpty = z3 := by rw [← hz3, ← Bool.not_not fr.toList.isEmpty, empty_size]; simp
  have p4 : ((n4 : Int) == 0) = z4 := by rw [← hz4]; by_cases e : n4 = 0 <;> simp [e]
  have p5 : ((n5 : Int) == 0) = z5 := by rw [← hz5]; by_cases e : n5 = 0 <;> simp [e]
  have p6 : ((en : Int) == 0) = z6 := by rw [← hz6]; by_cases e : en = 0 <;> simp [e]
  clear hz0 hz1 hz3 hz4 hz5 hz6 hn4 hn5 h4 h5
  cases z0 with
  | false =>
    go_enter Tryz.func67, Tryz.ntmps67
    go_upto_region 1 with fail
    simp only [List.append_eq, List.cons_append, List.nil_append]
    go_wp2_with fail
    go_ret
    exact ⟨by simp, HB0.out⟩
  | true =>
    cases z1 with
    | false =>
      go_enter Tryz.func67, Tryz.ntmps67
      go_upto_region 1 with fail
      simp only [List.append_eq, List.cons_append, List.nil_append]
      go_wp2_with fail
      go_ret
      exact ⟨by simp, HB0.out⟩
    | true =>
      cases ext with
      | true =>
        go_enter Tryz.func67, Tryz.ntmps67
        go_upto_region 1 with fail
        simp only [List.append_eq, List.cons_append, List.nil_append]
        go_wp2_with fail
        go_ret
        exact ⟨by simp, HB0.out⟩
      | false =>
        cases z3 with
        | false =>
          go_enter Tryz.func67, Tryz.ntmps67
          go_upto_region 1 with fail
          simp only [List.append_eq, List.cons_append, List.nil_append]
          go_wp2_with fail
          go_ret
          exact ⟨by simp, HB0.out⟩
        | true =>
          cases z4 with
          | false =>
            go_enter Tryz.func67, Tryz.ntmps67
            go_upto_region 1 with fail
            simp only [List.append_eq, List.cons_append, List.nil_append]
            go_wp2_with fail
            go_ret
            exact ⟨by simp, HB0.out⟩
          | true =>
            cases z5 with
            | false =>
              go_enter Tryz.func67, Tryz.ntmps67
              go_upto_region 1 with fail
              simp only [List.append_eq, List.cons_append, List.nil_append]
              go_wp2_with fail
              go_ret
              exact ⟨by simp, HB0.out⟩
            | true =>
              cases z6 with
              | false =>
                go_enter Tryz.func67, Tryz.ntmps67
                go_upto_region 1 with fail
                simp only [List.append_eq, List.cons_append, List.nil_append]
                go_wp2_with fail
                go_ret
                exact ⟨by simp, HB0.out⟩
              | true =>
                go_enter Tryz.func67, Tryz.ntmps67
                go_upto_region 1 with fail
                simp only [List.append_eq, List.cons_append, List.nil_append]
                go_wp2_with fail
                go_ret
                exact ⟨by simp, HB0.out⟩
end Go.Proofs.YtgmnojnalkhepaaGreatDoor

/-
  The document's whether no fields of a type are set but some: 'only', as it is asked.
-/
namespace Go.Proofs.YtgmnojnalkhepaaGreatDoor
open Go.RowKit
set_option linter.unusedVariables false
set_option linter.unusedSimpArgs false
set_option maxRecDepth 100000

set_option maxHeartbeats 16000000 in
theorem only_B (cs : List Value) (op : Int) (tn fr : ByteArray) (ext : Bool) (sa ma pa aa ea : Option Addr) (sn sc mn mc pn pc an ac en ec : Nat) (w : World)
    (c1 : cs[1]? = some (.string tn)) (c2 : cs[2]? = some (.int .i64 op)) (c8 : cs[8]? = some (.bool ext)) (c9 : cs[9]? = some (.string fr)) (c10 : cs[10]? = some (.slice sa sn sc)) (c11 : cs[11]? = some (.slice ma mn mc)) (c12 : cs[12]? = some (.slice pa pn pc)) (c13 : cs[13]? = some (.slice aa an ac)) (c14 : cs[14]? = some (.slice ea en ec))
    (h4 : sn + mn ≤ 1000000000000000) (h5 : pn + an ≤ 1000000000000000) :
    Calls Tryz.prog 67 #[.agg cs.toArray, .bool false, .bool true, .bool true, .bool false, .bool false, .bool false, .bool false] w fun e w' => e = .returned (.bool ((false || decide (tn.size = 0)) && ((true || decide (op = 0)) && ((true || !ext) && ((false || decide (fr.size = 0)) && ((false || decide (sn + mn = 0)) && ((false || decide (pn + an = 0)) && ((false || decide (en = 0)))))))))) ∧ Below w.heap.size w w' := by
  have HB0 := Lib.hid ((Below.refl w.heap.size w).alloc (Nat.le_refl _) (.cells cs.toArray 39))
  have HX := Lib.hid (Bx.new w cs.toArray 39)
  have d1 : (w.alloc (.cells cs.toArray 39)).cell? ⟨w.heap.size, 1, none⟩ = some (.string tn) := HX.out.cell 1 (by rw [List.getElem?_toArray]; exact c1)
  have d2 : (w.alloc (.cells cs.toArray 39)).cell? ⟨w.heap.size, 2, none⟩ = some (.int .i64 op) := HX.out.cell 2 (by rw [List.getElem?_toArray]; exact c2)
  have d8 : (w.alloc (.cells cs.toArray 39)).cell? ⟨w.heap.size, 8, none⟩ = some (.bool ext) := HX.out.cell 8 (by rw [List.getElem?_toArray]; exact c8)
  have d9 : (w.alloc (.cells cs.toArray 39)).cell? ⟨w.heap.size, 9, none⟩ = some (.string fr) := HX.out.cell 9 (by rw [List.getElem?_toArray]; exact c9)
  have d10 : (w.alloc (.cells cs.toArray 39)).cell? ⟨w.heap.size, 10, none⟩ = some (.slice sa sn sc) := HX.out.cell 10 (by rw [List.getElem?_toArray]; exact c10)
  have d11 : (w.alloc (.cells cs.toArray 39)).cell? ⟨w.heap.size, 11, none⟩ = some (.slice ma mn mc) := HX.out.cell 11 (by rw [List.getElem?_toArray]; exact c11)
  have d12 : (w.alloc (.cells cs.toArray 39)).cell? ⟨w.heap.size, 12, none⟩ = some (.slice pa pn pc) := HX.out.cell 12 (by rw [List.getElem?_toArray]; exact c12)
  have d13 : (w.alloc (.cells cs.toArray 39)).cell? ⟨w.heap.size, 13, none⟩ = some (.slice aa an ac) := HX.out.cell 13 (by rw [List.getElem?_toArray]; exact c13)
  have d14 : (w.alloc (.cells cs.toArray 39)).cell? ⟨w.heap.size, 14, none⟩ = some (.slice ea en ec) := HX.out.cell 14 (by rw [List.getElem?_toArray]; exact c14)
  clear HX c1 c2 c8 c9 c10 c11 c12 c13 c14
  obtain ⟨z0, hz0⟩ : ∃ z, decide (tn.size = 0) = z := ⟨_, rfl⟩
  obtain ⟨z1, hz1⟩ : ∃ z, decide (op = 0) = z := ⟨_, rfl⟩
  obtain ⟨z3, hz3⟩ : ∃ z, decide (fr.size = 0) = z := ⟨_, rfl⟩
  obtain ⟨n4, hn4⟩ : ∃ n, sn + mn = n := ⟨_, rfl⟩
  obtain ⟨n5, hn5⟩ : ∃ n, pn + an = n := ⟨_, rfl⟩
  have q4 : IntKind.i64.wrap ((sn : Int) + (mn : Int)) = (n4 : Int) := (wrap_ok (x := (sn : Int) + (mn : Int)) (by unfold I64; omega)).trans (by omega)
  have q5 : IntKind.i64.wrap ((pn : Int) + (an : Int)) = (n5 : Int) := (wrap_ok (x := (pn : Int) + (an : Int)) (by unfold I64; omega)).trans (by omega)
  rw [hn4, hn5]
  obtain ⟨z4, hz4⟩ : ∃ z, decide (n4 = 0) = z := ⟨_, rfl⟩
  obtain ⟨z5, hz5⟩ : ∃ z, decide (n5 = 0) = z := ⟨_, rfl⟩
  obtain ⟨z6, hz6⟩ : ∃ z, decide (en = 0) = z := ⟨_, rfl⟩
  rw [hz0, hz1, hz3, hz4, hz5, hz6]
  have p0 : tn.toList.isEmpty = z0 := by rw [← hz0, ← Bool.not_not tn.toList.isEmpty, empty_size]; simp
  have p1 : (op == 0) = z1 := by rw [← hz1]; by_cases e : op = 0 <;> simp [e]
  have p3 : fr.toList.isEmpty = z3 := by rw [← hz3, ← Bool.not_not fr.toList.isEmpty, empty_size]; simp
  have p4 : ((n4 : Int) == 0) = z4 := by rw [← hz4]; by_cases e : n4 = 0 <;> simp [e]
  have p5 : ((n5 : Int) == 0) = z5 := by rw [← hz5]; by_cases e : n5 = 0 <;> simp [e]
  have p6 : ((en : Int) == 0) = z6 := by rw [← hz6]; by_cases e : en = 0 <;> simp [e]
  clear hz0 hz1 hz3 hz4 hz5 hz6 hn4 hn5 h4 h5
  cases z0 with
  | false =>
    go_enter Tryz.func67, Tryz.ntmps67
    go_upto_region 1 with fail
    simp only [List.append_eq, List.cons_append, List.nil_append]
    go_wp2_with fail
    go_ret
    exact ⟨by simp, HB0.out⟩
  | true =>
    cases z3 with
    | false =>
      go_enter Tryz.func67, Tryz.ntmps67
      go_upto_region 1 with fail
      simp only [List.append_eq, List.cons_append, List.nil_append]
      go_wp2_with fail
      go_ret
      exact ⟨by simp, HB0.out⟩
    | true =>
      cases z4 with
      | false =>
        go_enter Tryz.func67, Tryz.ntmps67
        go_upto_region 1 with fail
        simp only [List.append_eq, List.cons_append, List.nil_append]
        go_wp2_with fail
        go_ret
        exact ⟨by simp, HB0.out⟩
      | true =>
        cases z5 with
        | false =>
          go_enter Tryz.func67, Tryz.ntmps67
          go_upto_region 1 with fail
          simp only [List.append_eq, List.cons_append, List.nil_append]
          go_wp2_with fail
          go_ret
          exact ⟨by simp, HB0.out⟩
        | true =>
          cases z6 with
          | false =>
            go_enter Tryz.func67, Tryz.ntmps67
            go_upto_region 1 with fail
            simp only [List.append_eq, List.cons_append, List.nil_append]
            go_wp2_with fail
            go_ret
            exact ⟨by simp, HB0.out⟩
          | true =>
            go_enter Tryz.func67, Tryz.ntmps67
            go_upto_region 1 with fail
            simp only [List.append_eq, List.cons_append, List.nil_append]
            go_wp2_with fail
            go_ret
            exact ⟨by simp, HB0.out⟩
end Go.Proofs.YtgmnojnalkhepaaGreatDoor

/-
  The document's whether no fields of a type are set but some: 'only', as it is asked.
-/
namespace Go.Proofs.YtgmnojnalkhepaaGreatDoor
open Go.RowKit
set_option linter.unusedVariables false
set_option linter.unusedSimpArgs false
set_option maxRecDepth 100000

set_option maxHeartbeats 16000000 in
theorem only_C (cs : List Value) (op : Int) (tn fr : ByteArray) (ext : Bool) (sa ma pa aa ea : Option Addr) (sn sc mn mc pn pc an ac en ec : Nat) (w : World)
    (c1 : cs[1]? = some (.string tn)) (c2 : cs[2]? = some (.int .i64 op)) (c8 : cs[8]? = some (.bool ext)) (c9 : cs[9]? = some (.string fr)) (c10 : cs[10]? = some (.slice sa sn sc)) (c11 : cs[11]? = some (.slice ma mn mc)) (c12 : cs[12]? = some (.slice pa pn pc)) (c13 : cs[13]? = some (.slice aa an ac)) (c14 : cs[14]? = some (.slice ea en ec))
    (h4 : sn + mn ≤ 1000000000000000) (h5 : pn + an ≤ 1000000000000000) :
    Calls Tryz.prog 67 #[.agg cs.toArray, .bool false, .bool true, .bool true, .bool true, .bool false, .bool false, .bool false] w fun e w' => e = .returned (.bool ((false || decide (tn.size = 0)) && ((true || decide (op = 0)) && ((true || !ext) && ((true || decide (fr.size = 0)) && ((false || decide (sn + mn = 0)) && ((false || decide (pn + an = 0)) && ((false || decide (en = 0)))))))))) ∧ Below w.heap.size w w' := by
  have HB0 := Lib.hid ((Below.refl w.heap.size w).alloc (Nat.le_refl _) (.cells cs.toArray 39))
  have HX := Lib.hid (Bx.new w cs.toArray 39)
  have d1 : (w.alloc (.cells cs.toArray 39)).cell? ⟨w.heap.size, 1, none⟩ = some (.string tn) := HX.out.cell 1 (by rw [List.getElem?_toArray]; exact c1)
  have d2 : (w.alloc (.cells cs.toArray 39)).cell? ⟨w.heap.size, 2, none⟩ = some (.int .i64 op) := HX.out.cell 2 (by rw [List.getElem?_toArray]; exact c2)
  have d8 : (w.alloc (.cells cs.toArray 39)).cell? ⟨w.heap.size, 8, none⟩ = some (.bool ext) := HX.out.cell 8 (by rw [List.getElem?_toArray]; exact c8)
  have d9 : (w.alloc (.cells cs.toArray 39)).cell? ⟨w.heap.size, 9, none⟩ = some (.string fr) := HX.out.cell 9 (by rw [List.getElem?_toArray]; exact c9)
  have d10 : (w.alloc (.cells cs.toArray 39)).cell? ⟨w.heap.size, 10, none⟩ = some (.slice sa sn sc) := HX.out.cell 10 (by rw [List.getElem?_toArray]; exact c10)
  have d11 : (w.alloc (.cells cs.toArray 39)).cell? ⟨w.heap.size, 11, none⟩ = some (.slice ma mn mc) := HX.out.cell 11 (by rw [List.getElem?_toArray]; exact c11)
  have d12 : (w.alloc (.cells cs.toArray 39)).cell? ⟨w.heap.size, 12, none⟩ = some (.slice pa pn pc) := HX.out.cell 12 (by rw [List.getElem?_toArray]; exact c12)
  have d13 : (w.alloc (.cells cs.toArray 39)).cell? ⟨w.heap.size, 13, none⟩ = some (.slice aa an ac) := HX.out.cell 13 (by rw [List.getElem?_toArray]; exact c13)
  have d14 : (w.alloc (.cells cs.toArray 39)).cell? ⟨w.heap.size, 14, none⟩ = some (.slice ea en ec) := HX.out.cell 14 (by rw [List.getElem?_toArray]; exact c14)
  clear HX c1 c2 c8 c9 c10 c11 c12 c13 c14
  obtain ⟨z0, hz0⟩ : ∃ z, decide (tn.size = 0) = z := ⟨_, rfl⟩
  obtain ⟨z1, hz1⟩ : ∃ z, decide (op = 0) = z := ⟨_, rfl⟩
  obtain ⟨z3, hz3⟩ : ∃ z, decide (fr.size = 0) = z := ⟨_, rfl⟩
  obtain ⟨n4, hn4⟩ : ∃ n, sn + mn = n := ⟨_, rfl⟩
  obtain ⟨n5, hn5⟩ : ∃ n, pn + an = n := ⟨_, rfl⟩
  have q4 : IntKind.i64.wrap ((sn : Int) + (mn : Int)) = (n4 : Int) := (wrap_ok (x := (sn : Int) + (mn : Int)) (by unfold I64; omega)).trans (by omega)
  have q5 : IntKind.i64.wrap ((pn : Int) + (an : Int)) = (n5 : Int) := (wrap_ok (x := (pn : Int) + (an : Int)) (by unfold I64; omega)).trans (by omega)
  rw [hn4, hn5]
  obtain ⟨z4, hz4⟩ : ∃ z, decide (n4 = 0) = z := ⟨_, rfl⟩
  obtain ⟨z5, hz5⟩ : ∃ z, decide (n5 = 0) = z := ⟨_, rfl⟩
  obtain ⟨z6, hz6⟩ : ∃ z, decide (en = 0) = z := ⟨_, rfl⟩
  rw [hz0, hz1, hz3, hz4, hz5, hz6]
  have p0 : tn.toList.isEmpty = z0 := by rw [← hz0, ← Bool.not_not tn.toList.isEmpty, empty_size]; simp
  have p1 : (op == 0) = z1 := by rw [← hz1]; by_cases e : op = 0 <;> simp [e]
  have p3 : fr.toList.isEmpty = z3 := by rw [← hz3, ← Bool.not_not fr.toList.isEmpty, empty_size]; simp
  have p4 : ((n4 : Int) == 0) = z4 := by rw [← hz4]; by_cases e : n4 = 0 <;> simp [e]
  have p5 : ((n5 : Int) == 0) = z5 := by rw [← hz5]; by_cases e : n5 = 0 <;> simp [e]
  have p6 : ((en : Int) == 0) = z6 := by rw [← hz6]; by_cases e : en = 0 <;> simp [e]
  clear hz0 hz1 hz3 hz4 hz5 hz6 hn4 hn5 h4 h5
  cases z0 with
  | false =>
    go_enter Tryz.func67, Tryz.ntmps67
    go_upto_region 1 with fail
    simp only [List.append_eq, List.cons_append, List.nil_append]
    go_wp2_with fail
    go_ret
    exact ⟨by simp, HB0.out⟩
  | true =>
    cases z4 with
    | false =>
      go_enter Tryz.func67, Tryz.ntmps67
      go_upto_region 1 with fail
      simp only [List.append_eq, List.cons_append, List.nil_append]
      go_wp2_with fail
      go_ret
      exact ⟨by simp, HB0.out⟩
    | true =>
      cases z5 with
      | false =>
        go_enter Tryz.func67, Tryz.ntmps67
        go_upto_region 1 with fail
        simp only [List.append_eq, List.cons_append, List.nil_append]
        go_wp2_with fail
        go_ret
        exact ⟨by simp, HB0.out⟩
      | true =>
        cases z6 with
        | false =>
          go_enter Tryz.func67, Tryz.ntmps67
          go_upto_region 1 with fail
          simp only [List.append_eq, List.cons_append, List.nil_append]
          go_wp2_with fail
          go_ret
          exact ⟨by simp, HB0.out⟩
        | true =>
          go_enter Tryz.func67, Tryz.ntmps67
          go_upto_region 1 with fail
          simp only [List.append_eq, List.cons_append, List.nil_append]
          go_wp2_with fail
          go_ret
          exact ⟨by simp, HB0.out⟩
end Go.Proofs.YtgmnojnalkhepaaGreatDoor

/-
  The document's whether no fields of a type are set but some: 'only', as it is asked.
-/
namespace Go.Proofs.YtgmnojnalkhepaaGreatDoor
open Go.RowKit
set_option linter.unusedVariables false
set_option linter.unusedSimpArgs false
set_option maxRecDepth 100000

set_option maxHeartbeats 16000000 in
theorem only_D (cs : List Value) (op : Int) (tn fr : ByteArray) (ext : Bool) (sa ma pa aa ea : Option Addr) (sn sc mn mc pn pc an ac en ec : Nat) (w : World)
    (c1 : cs[1]? = some (.string tn)) (c2 : cs[2]? = some (.int .i64 op)) (c8 : cs[8]? = some (.bool ext)) (c9 : cs[9]? = some (.string fr)) (c10 : cs[10]? = some (.slice sa sn sc)) (c11 : cs[11]? = some (.slice ma mn mc)) (c12 : cs[12]? = some (.slice pa pn pc)) (c13 : cs[13]? = some (.slice aa an ac)) (c14 : cs[14]? = some (.slice ea en ec))
    (h4 : sn + mn ≤ 1000000000000000) (h5 : pn + an ≤ 1000000000000000) :
    Calls Tryz.prog 67 #[.agg cs.toArray, .bool false, .bool false, .bool true, .bool false, .bool true, .bool false, .bool false] w fun e w' => e = .returned (.bool ((false || decide (tn.size = 0)) && ((false || decide (op = 0)) && ((true || !ext) && ((false || decide (fr.size = 0)) && ((true || decide (sn + mn = 0)) && ((false || decide (pn + an = 0)) && ((false || decide (en = 0)))))))))) ∧ Below w.heap.size w w' := by
  have HB0 := Lib.hid ((Below.refl w.heap.size w).alloc (Nat.le_refl _) (.cells cs.toArray 39))
  have HX := Lib.hid (Bx.new w cs.toArray 39)
  have d1 : (w.alloc (.cells cs.toArray 39)).cell? ⟨w.heap.size, 1, none⟩ = some (.string tn) := HX.out.cell 1 (by rw [List.getElem?_toArray]; exact c1)
  have d2 : (w.alloc (.cells cs.toArray 39)).cell? ⟨w.heap.size, 2, none⟩ = some (.int .i64 op) := HX.out.cell 2 (by rw [List.getElem?_toArray]; exact c2)
  have d8 : (w.alloc (.cells cs.toArray 39)).cell? ⟨w.heap.size, 8, none⟩ = some (.bool ext) := HX.out.cell 8 (by rw [List.getElem?_toArray]; exact c8)
  have d9 : (w.alloc (.cells cs.toArray 39)).cell? ⟨w.heap.size, 9, none⟩ = some (.string fr) := HX.out.cell 9 (by rw [List.getElem?_toArray]; exact c9)
  have d10 : (w.alloc (.cells cs.toArray 39)).cell? ⟨w.heap.size, 10, none⟩ = some (.slice sa sn sc) := HX.out.cell 10 (by rw [List.getElem?_toArray]; exact c10)
  have d11 : (w.alloc (.cells cs.toArray 39)).cell? ⟨w.heap.size, 11, none⟩ = some (.slice ma mn mc) := HX.out.cell 11 (by rw [List.getElem?_toArray]; exact c11)
  have d12 : (w.alloc (.cells cs.toArray 39)).cell? ⟨w.heap.size, 12, none⟩ = some (.slice pa pn pc) := HX.out.cell 12 (by rw [List.getElem?_toArray]; exact c12)
  have d13 : (w.alloc (.cells cs.toArray 39)).cell? ⟨w.heap.size, 13, none⟩ = some (.slice aa an ac) := HX.out.cell 13 (by rw [List.getElem?_toArray]; exact c13)
  have d14 : (w.alloc (.cells cs.toArray 39)).cell? ⟨w.heap.size, 14, none⟩ = some (.slice ea en ec) := HX.out.cell 14 (by rw [List.getElem?_toArray]; exact c14)
  clear HX c1 c2 c8 c9 c10 c11 c12 c13 c14
  obtain ⟨z0, hz0⟩ : ∃ z, decide (tn.size = 0) = z := ⟨_, rfl⟩
  obtain ⟨z1, hz1⟩ : ∃ z, decide (op = 0) = z := ⟨_, rfl⟩
  obtain ⟨z3, hz3⟩ : ∃ z, decide (fr.size = 0) = z := ⟨_, rfl⟩
  obtain ⟨n4, hn4⟩ : ∃ n, sn + mn = n := ⟨_, rfl⟩
  obtain ⟨n5, hn5⟩ : ∃ n, pn + an = n := ⟨_, rfl⟩
  have q4 : IntKind.i64.wrap ((sn : Int) + (mn : Int)) = (n4 : Int) := (wrap_ok (x := (sn : Int) + (mn : Int)) (by unfold I64; omega)).trans (by omega)
  have q5 : IntKind.i64.wrap ((pn : Int) + (an : Int)) = (n5 : Int) := (wrap_ok (x := (pn : Int) + (an : Int)) (by unfold I64; omega)).trans (by omega)
  rw [hn4, hn5]
  obtain ⟨z4, hz4⟩ : ∃ z, decide (n4 = 0) = z := ⟨_, rfl⟩
  obtain ⟨z5, hz5⟩ : ∃ z, decide (n5 = 0) = z := ⟨_, rfl⟩
  obtain ⟨z6, hz6⟩ : ∃ z, decide (en = 0) = z := ⟨_, rfl⟩
  rw [hz0, hz1, hz3, hz4, hz5, hz6]
  have p0 : tn.toList.isEmpty = z0 := by rw [← hz0, ← Bool.not_not tn.toList.isEmpty, empty_size]; simp
  have p1 : (op == 0) = z1 := by rw [← hz1]; by_cases e : op = 0 <;> simp [e]
  have p3 : fr.toList.isEmpty = z3 := by rw [← hz3, ← Bool.not_not fr.toList.isEmpty, empty_size]; simp
  have p4 : ((n4 : Int) == 0) = z4 := by rw [← hz4]; by_cases e : n4 = 0 <;> simp [e]
  have p5 : ((n5 : Int) == 0) = z5 := by rw [← hz5]; by_cases e : n5 = 0 <;> simp [e]
  have p6 : ((en : Int) == 0) = z6 := by rw [← hz6]; by_cases e : en = 0 <;> simp [e]
  clear hz0 hz1 hz3 hz4 hz5 hz6 hn4 hn5 h4 h5
  cases z0 with
  | false =>
    go_enter Tryz.func67, Tryz.ntmps67
    go_upto_region 1 with fail
    simp only [List.append_eq, List.cons_append, List.nil_append]
    go_wp2_with fail
    go_ret
    exact ⟨by simp, HB0.out⟩
  | true =>
    cases z1 with
    | false =>
      go_enter Tryz.func67, Tryz.ntmps67
      go_upto_region 1 with fail
      simp only [List.append_eq, List.cons_append, List.nil_append]
      go_wp2_with fail
      go_ret
      exact ⟨by simp, HB0.out⟩
    | true =>
      cases z3 with
      | false =>
        go_enter Tryz.func67, Tryz.ntmps67
        go_upto_region 1 with fail
        simp only [List.append_eq, List.cons_append, List.nil_append]
        go_wp2_with fail
        go_ret
        exact ⟨by simp, HB0.out⟩
      | true =>
        cases z5 with
        | false =>
          go_enter Tryz.func67, Tryz.ntmps67
          go_upto_region 1 with fail
          simp only [List.append_eq, List.cons_append, List.nil_append]
          go_wp2_with fail
          go_ret
          exact ⟨by simp, HB0.out⟩
        | true =>
          cases z6 with
          | false =>
            go_enter Tryz.func67, Tryz.ntmps67
            go_upto_region 1 with fail
            simp only [List.append_eq, List.cons_append, List.nil_append]
            go_wp2_with fail
            go_ret
            exact ⟨by simp, HB0.out⟩
          | true =>
            go_enter Tryz.func67, Tryz.ntmps67
            go_upto_region 1 with fail
            simp only [List.append_eq, List.cons_append, List.nil_append]
            go_wp2_with fail
            go_ret
            exact ⟨by simp, HB0.out⟩
end Go.Proofs.YtgmnojnalkhepaaGreatDoor

/-
  The document's whether no fields of a type are set but some: 'only', as it is asked.
-/
namespace Go.Proofs.YtgmnojnalkhepaaGreatDoor
open Go.RowKit
set_option linter.unusedVariables false
set_option linter.unusedSimpArgs false
set_option maxRecDepth 100000

set_option maxHeartbeats 16000000 in
theorem only_E (cs : List Value) (op : Int) (tn fr : ByteArray) (ext : Bool) (sa ma pa aa ea : Option Addr) (sn sc mn mc pn pc an ac en ec : Nat) (w : World)
    (c1 : cs[1]? = some (.string tn)) (c2 : cs[2]? = some (.int .i64 op)) (c8 : cs[8]? = some (.bool ext)) (c9 : cs[9]? = some (.string fr)) (c10 : cs[10]? = some (.slice sa sn sc)) (c11 : cs[11]? = some (.slice ma mn mc)) (c12 : cs[12]? = some (.slice pa pn pc)) (c13 : cs[13]? = some (.slice aa an ac)) (c14 : cs[14]? = some (.slice ea en ec))
    (h4 : sn + mn ≤ 1000000000000000) (h5 : pn + an ≤ 1000000000000000) :
    Calls Tryz.prog 67 #[.agg cs.toArray, .bool false, .bool false, .bool true, .bool false, .bool false, .bool true, .bool false] w fun e w' => e = .returned (.bool ((false || decide (tn.size = 0)) && ((false || decide (op = 0)) && ((true || !ext) && ((false || decide (fr.size = 0)) && ((false || decide (sn + mn = 0)) && ((true || decide (pn + an = 0)) && ((false || decide (en = 0)))))))))) ∧ Below w.heap.size w w' := by
  have HB0 := Lib.hid ((Below.refl w.heap.size w).alloc (Nat.le_refl _) (.cells cs.toArray 39))
  have HX := Lib.hid (Bx.new w cs.toArray 39)
  have d1 : (w.alloc (.cells cs.toArray 39)).cell? ⟨w.heap.size, 1, none⟩ = some (.string tn) := HX.out.cell 1 (by rw [List.getElem?_toArray]; exact c1)
  have d2 : (w.alloc (.cells cs.toArray 39)).cell? ⟨w.heap.size, 2, none⟩ = some (.int .i64 op) := HX.out.cell 2 (by rw [List.getElem?_toArray]; exact c2)
  have d8 : (w.alloc (.cells cs.toArray 39)).cell? ⟨w.heap.size, 8, none⟩ = some (.bool ext) := HX.out.cell 8 (by rw [List.getElem?_toArray]; exact c8)
  have d9 : (w.alloc (.cells cs.toArray 39)).cell? ⟨w.heap.size, 9, none⟩ = some (.string fr) := HX.out.cell 9 (by rw [List.getElem?_toArray]; exact c9)
  have d10 : (w.alloc (.cells cs.toArray 39)).cell? ⟨w.heap.size, 10, none⟩ = some (.slice sa sn sc) := HX.out.cell 10 (by rw [List.getElem?_toArray]; exact c10)
  have d11 : (w.alloc (.cells cs.toArray 39)).cell? ⟨w.heap.size, 11, none⟩ = some (.slice ma mn mc) := HX.out.cell 11 (by rw [List.getElem?_toArray]; exact c11)
  have d12 : (w.alloc (.cells cs.toArray 39)).cell? ⟨w.heap.size, 12, none⟩ = some (.slice pa pn pc) := HX.out.cell 12 (by rw [List.getElem?_toArray]; exact c12)
  have d13 : (w.alloc (.cells cs.toArray 39)).cell? ⟨w.heap.size, 13, none⟩ = some (.slice aa an ac) := HX.out.cell 13 (by rw [List.getElem?_toArray]; exact c13)
  have d14 : (w.alloc (.cells cs.toArray 39)).cell? ⟨w.heap.size, 14, none⟩ = some (.slice ea en ec) := HX.out.cell 14 (by rw [List.getElem?_toArray]; exact c14)
  clear HX c1 c2 c8 c9 c10 c11 c12 c13 c14
  obtain ⟨z0, hz0⟩ : ∃ z, decide (tn.size = 0) = z := ⟨_, rfl⟩
  obtain ⟨z1, hz1⟩ : ∃ z, decide (op = 0) = z := ⟨_, rfl⟩
  obtain ⟨z3, hz3⟩ : ∃ z, decide (fr.size = 0) = z := ⟨_, rfl⟩
  obtain ⟨n4, hn4⟩ : ∃ n, sn + mn = n := ⟨_, rfl⟩
  obtain ⟨n5, hn5⟩ : ∃ n, pn + an = n := ⟨_, rfl⟩
  have q4 : IntKind.i64.wrap ((sn : Int) + (mn : Int)) = (n4 : Int) := (wrap_ok (x := (sn : Int) + (mn : Int)) (by unfold I64; omega)).trans (by omega)
  have q5 : IntKind.i64.wrap ((pn : Int) + (an : Int)) = (n5 : Int) := (wrap_ok (x := (pn : Int) + (an : Int)) (by unfold I64; omega)).trans (by omega)
  rw [hn4, hn5]
  obtain ⟨z4, hz4⟩ : ∃ z, decide (n4 = 0) = z := ⟨_, rfl⟩
  obtain ⟨z5, hz5⟩ : ∃ z, decide (n5 = 0) = z := ⟨_, rfl⟩
  obtain ⟨z6, hz6⟩ : ∃ z, decide (en = 0) = z := ⟨_, rfl⟩
  rw [hz0, hz1, hz3, hz4, hz5, hz6]
  have p0 : tn.toList.isEmpty = z0 := by rw [← hz0, ← Bool.not_not tn.toList.isEmpty, empty_size]; simp
  have p1 : (op == 0) = z1 := by rw [← hz1]; by_cases e : op = 0 <;> simp [e]
  have p3 : fr.toList.isEmpty = z3 := by rw [← hz3, ← Bool.not_not fr.toList.isEmpty, empty_size]; simp
  have p4 : ((n4 : Int) == 0) = z4 := by rw [← hz4]; by_cases e : n4 = 0 <;> simp [e]
  have p5 : ((n5 : Int) == 0) = z5 := by rw [← hz5]; by_cases e : n5 = 0 <;> simp [e]
  have p6 : ((en : Int) == 0) = z6 := by rw [← hz6]; by_cases e : en = 0 <;> simp [e]
  clear hz0 hz1 hz3 hz4 hz5 hz6 hn4 hn5 h4 h5
  cases z0 with
  | false =>
    go_enter Tryz.func67, Tryz.ntmps67
    go_upto_region 1 with fail
    simp only [List.append_eq, List.cons_append, List.nil_append]
    go_wp2_with fail
    go_ret
    exact ⟨by simp, HB0.out⟩
  | true =>
    cases z1 with
    | false =>
      go_enter Tryz.func67, Tryz.ntmps67
      go_upto_region 1 with fail
      simp only [List.append_eq, List.cons_append, List.nil_append]
      go_wp2_with fail
      go_ret
      exact ⟨by simp, HB0.out⟩
    | true =>
      cases z3 with
      | false =>
        go_enter Tryz.func67, Tryz.ntmps67
        go_upto_region 1 with fail
        simp only [List.append_eq, List.cons_append, List.nil_append]
        go_wp2_with fail
        go_ret
        exact ⟨by simp, HB0.out⟩
      | true =>
        cases z4 with
        | false =>
          go_enter Tryz.func67, Tryz.ntmps67
          go_upto_region 1 with fail
          simp only [List.append_eq, List.cons_append, List.nil_append]
          go_wp2_with fail
          go_ret
          exact ⟨by simp, HB0.out⟩
        | true =>
          cases z6 with
          | false =>
            go_enter Tryz.func67, Tryz.ntmps67
            go_upto_region 1 with fail
            simp only [List.append_eq, List.cons_append, List.nil_append]
            go_wp2_with fail
            go_ret
            exact ⟨by simp, HB0.out⟩
          | true =>
            go_enter Tryz.func67, Tryz.ntmps67
            go_upto_region 1 with fail
            simp only [List.append_eq, List.cons_append, List.nil_append]
            go_wp2_with fail
            go_ret
            exact ⟨by simp, HB0.out⟩
end Go.Proofs.YtgmnojnalkhepaaGreatDoor

/-
  The document's whether no fields of a type are set but some: 'only', as it is asked.
-/
namespace Go.Proofs.YtgmnojnalkhepaaGreatDoor
open Go.RowKit
set_option linter.unusedVariables false
set_option linter.unusedSimpArgs false
set_option maxRecDepth 100000

set_option maxHeartbeats 16000000 in
theorem only_F (cs : List Value) (op : Int) (tn fr : ByteArray) (ext : Bool) (sa ma pa aa ea : Option Addr) (sn sc mn mc pn pc an ac en ec : Nat) (w : World)
    (c1 : cs[1]? = some (.string tn)) (c2 : cs[2]? = some (.int .i64 op)) (c8 : cs[8]? = some (.bool ext)) (c9 : cs[9]? = some (.string fr)) (c10 : cs[10]? = some (.slice sa sn sc)) (c11 : cs[11]? = some (.slice ma mn mc)) (c12 : cs[12]? = some (.slice pa pn pc)) (c13 : cs[13]? = some (.slice aa an ac)) (c14 : cs[14]? = some (.slice ea en ec))
    (h4 : sn + mn ≤ 1000000000000000) (h5 : pn + an ≤ 1000000000000000) :
    Calls Tryz.prog 67 #[.agg cs.toArray, .bool false, .bool true, .bool true, .bool false, .bool false, .bool false, .bool true] w fun e w' => e = .returned (.bool ((false || decide (tn.size = 0)) && ((true || decide (op = 0)) && ((true || !ext) && ((false || decide (fr.size = 0)) && ((false || decide (sn + mn = 0)) && ((false || decide (pn + an = 0)) && ((true || decide (en = 0)))))))))) ∧ Below w.heap.size w w' := by
  have HB0 := Lib.hid ((Below.refl w.heap.size w).alloc (Nat.le_refl _) (.cells cs.toArray 39))
  have HX := Lib.hid (Bx.new w cs.toArray 39)
  have d1 : (w.alloc (.cells cs.toArray 39)).cell? ⟨w.heap.size, 1, none⟩ = some (.string tn) := HX.out.cell 1 (by rw [List.getElem?_toArray]; exact c1)
  have d2 : (w.alloc (.cells cs.toArray 39)).cell? ⟨w.heap.size, 2, none⟩ = some (.int .i64 op) := HX.out.cell 2 (by rw [List.getElem?_toArray]; exact c2)
  have d8 : (w.alloc (.cells cs.toArray 39)).cell? ⟨w.heap.size, 8, none⟩ = some (.bool ext) := HX.out.cell 8 (by rw [List.getElem?_toArray]; exact c8)
  have d9 : (w.alloc (.cells cs.toArray 39)).cell? ⟨w.heap.size, 9, none⟩ = some (.string fr) := HX.out.cell 9 (by rw [List.getElem?_toArray]; exact c9)
  have d10 : (w.alloc (.cells cs.toArray 39)).cell? ⟨w.heap.size, 10, none⟩ = some (.slice sa sn sc) := HX.out.cell 10 (by rw [List.getElem?_toArray]; exact c10)
  have d11 : (w.alloc (.cells cs.toArray 39)).cell? ⟨w.heap.size, 11, none⟩ = some (.slice ma mn mc) := HX.out.cell 11 (by rw [List.getElem?_toArray]; exact c11)
  have d12 : (w.alloc (.cells cs.toArray 39)).cell? ⟨w.heap.size, 12, none⟩ = some (.slice pa pn pc) := HX.out.cell 12 (by rw [List.getElem?_toArray]; exact c12)
  have d13 : (w.alloc (.cells cs.toArray 39)).cell? ⟨w.heap.size, 13, none⟩ = some (.slice aa an ac) := HX.out.cell 13 (by rw [List.getElem?_toArray]; exact c13)
  have d14 : (w.alloc (.cells cs.toArray 39)).cell? ⟨w.heap.size, 14, none⟩ = some (.slice ea en ec) := HX.out.cell 14 (by rw [List.getElem?_toArray]; exact c14)
  clear HX c1 c2 c8 c9 c10 c11 c12 c13 c14
  obtain ⟨z0, hz0⟩ : ∃ z, decide (tn.size = 0) = z := ⟨_, rfl⟩
  obtain ⟨z1, hz1⟩ : ∃ z, decide (op = 0) = z := ⟨_, rfl⟩
  obtain ⟨z3, hz3⟩ : ∃ z, decide (fr.size = 0) = z := ⟨_, rfl⟩
  obtain ⟨n4, hn4⟩ : ∃ n, sn + mn = n := ⟨_, rfl⟩
  obtain ⟨n5, hn5⟩ : ∃ n, pn + an = n := ⟨_, rfl⟩
  have q4 : IntKind.i64.wrap ((sn : Int) + (mn : Int)) = (n4 : Int) := (wrap_ok (x := (sn : Int) + (mn : Int)) (by unfold I64; omega)).trans (by omega)
  have q5 : IntKind.i64.wrap ((pn : Int) + (an : Int)) = (n5 : Int) := (wrap_ok (x := (pn : Int) + (an : Int)) (by unfold I64; omega)).trans (by omega)
  rw [hn4, hn5]
  obtain ⟨z4, hz4⟩ : ∃ z, decide (n4 = 0) = z := ⟨_, rfl⟩
  obtain ⟨z5, hz5⟩ : ∃ z, decide (n5 = 0) = z := ⟨_, rfl⟩
  obtain ⟨z6, hz6⟩ : ∃ z, decide (en = 0) = z := ⟨_, rfl⟩
  rw [hz0, hz1, hz3, hz4, hz5, hz6]
  have p0 : tn.toList.isEmpty = z0 := by rw [← hz0, ← Bool.not_not tn.toList.isEmpty, empty_size]; simp
  have p1 : (op == 0) = z1 := by rw [← hz1]; by_cases e : op = 0 <;> simp [e]
  have p3 : fr.toList.isEmpty = z3 := by rw [← hz3, ← Bool.not_not fr.toList.isEmpty, empty_size]; simp
  have p4 : ((n4 : Int) == 0) = z4 := by rw [← hz4]; by_cases e : n4 = 0 <;> simp [e]
  have p5 : ((n5 : Int) == 0) = z5 := by rw [← hz5]; by_cases e : n5 = 0 <;> simp [e]
  have p6 : ((en : Int) == 0) = z6 := by rw [← hz6]; by_cases e : en = 0 <;> simp [e]
  clear hz0 hz1 hz3 hz4 hz5 hz6 hn4 hn5 h4 h5
  cases z0 with
  | false =>
    go_enter Tryz.func67, Tryz.ntmps67
    go_upto_region 1 with fail
    simp only [List.append_eq, List.cons_append, List.nil_append]
    go_wp2_with fail
    go_ret
    exact ⟨by simp, HB0.out⟩
  | true =>
    cases z3 with
    | false =>
      go_enter Tryz.func67, Tryz.ntmps67
      go_upto_region 1 with fail
      simp only [List.append_eq, List.cons_append, List.nil_append]
      go_wp2_with fail
      go_ret
      exact ⟨by simp, HB0.out⟩
    | true =>
      cases z4 with
      | false =>
        go_enter Tryz.func67, Tryz.ntmps67
        go_upto_region 1 with fail
        simp only [List.append_eq, List.cons_append, List.nil_append]
        go_wp2_with fail
        go_ret
        exact ⟨by simp, HB0.out⟩
      | true =>
        cases z5 with
        | false =>
          go_enter Tryz.func67, Tryz.ntmps67
          go_upto_region 1 with fail
          simp only [List.append_eq, List.cons_append, List.nil_append]
          go_wp2_with fail
          go_ret
          exact ⟨by simp, HB0.out⟩
        | true =>
          go_enter Tryz.func67, Tryz.ntmps67
          go_upto_region 1 with fail
          simp only [List.append_eq, List.cons_append, List.nil_append]
          go_wp2_with fail
          go_ret
          exact ⟨by simp, HB0.out⟩
end Go.Proofs.YtgmnojnalkhepaaGreatDoor

/-
  The document's whether no fields of a type are set but some: 'only', as it is asked.
-/
namespace Go.Proofs.YtgmnojnalkhepaaGreatDoor
open Go.RowKit
set_option linter.unusedVariables false
set_option linter.unusedSimpArgs false
set_option maxRecDepth 100000

set_option maxHeartbeats 16000000 in
theorem only_G (cs : List Value) (op : Int) (tn fr : ByteArray) (ext : Bool) (sa ma pa aa ea : Option Addr) (sn sc mn mc pn pc an ac en ec : Nat) (w : World)
    (c1 : cs[1]? = some (.string tn)) (c2 : cs[2]? = some (.int .i64 op)) (c8 : cs[8]? = some (.bool ext)) (c9 : cs[9]? = some (.string fr)) (c10 : cs[10]? = some (.slice sa sn sc)) (c11 : cs[11]? = some (.slice ma mn mc)) (c12 : cs[12]? = some (.slice pa pn pc)) (c13 : cs[13]? = some (.slice aa an ac)) (c14 : cs[14]? = some (.slice ea en ec))
    (h4 : sn + mn ≤ 1000000000000000) (h5 : pn + an ≤ 1000000000000000) :
    Calls Tryz.prog 67 #[.agg cs.toArray, .bool true, .bool false, .bool false, .bool false, .bool false, .bool false, .bool false] w fun e w' => e = .returned (.bool ((true || decide (tn.size = 0)) && ((false || decide (op = 0)) && ((false || !ext) && ((false || decide (fr.size = 0)) && ((false || decide (sn + mn = 0)) && ((false || decide (pn + an = 0)) && ((false || decide (en = 0)))))))))) ∧ Below w.heap.size w w' := by
  have HB0 := Lib.hid ((Below.refl w.heap.size w).alloc (Nat.le_refl _) (.cells cs.toArray 39))
  have HX := Lib.hid (Bx.new w cs.toArray 39)
  have d1 : (w.alloc (.cells cs.toArray 39)).cell? ⟨w.heap.size, 1, none⟩ = some (.string tn) := HX.out.cell 1 (by rw [List.getElem?_toArray]; exact c1)
  have d2 : (w.alloc (.cells cs.toArray 39)).cell? ⟨w.heap.size, 2, none⟩ = some (.int .i64 op) := HX.out.cell 2 (by rw [List.getElem?_toArray]; exact c2)
  have d8 : (w.alloc (.cells cs.toArray 39)).cell? ⟨w.heap.size, 8, none⟩ = some (.bool ext) := HX.out.cell 8 (by rw [List.getElem?_toArray]; exact c8)
  have d9 : (w.alloc (.cells cs.toArray 39)).cell? ⟨w.heap.size, 9, none⟩ = some (.string fr) := HX.out.cell 9 (by rw [List.getElem?_toArray]; exact c9)
  have d10 : (w.alloc (.cells cs.toArray 39)).cell? ⟨w.heap.size, 10, none⟩ = some (.slice sa sn sc) := HX.out.cell 10 (by rw [List.getElem?_toArray]; exact c10)
  have d11 : (w.alloc (.cells cs.toArray 39)).cell? ⟨w.heap.size, 11, none⟩ = some (.slice ma mn mc) := HX.out.cell 11 (by rw [List.getElem?_toArray]; exact c11)
  have d12 : (w.alloc (.cells cs.toArray 39)).cell? ⟨w.heap.size, 12, none⟩ = some (.slice pa pn pc) := HX.out.cell 12 (by rw [List.getElem?_toArray]; exact c12)
  have d13 : (w.alloc (.cells cs.toArray 39)).cell? ⟨w.heap.size, 13, none⟩ = some (.slice aa an ac) := HX.out.cell 13 (by rw [List.getElem?_toArray]; exact c13)
  have d14 : (w.alloc (.cells cs.toArray 39)).cell? ⟨w.heap.size, 14, none⟩ = some (.slice ea en ec) := HX.out.cell 14 (by rw [List.getElem?_toArray]; exact c14)
  clear HX c1 c2 c8 c9 c10 c11 c12 c13 c14
  obtain ⟨z0, hz0⟩ : ∃ z, decide (tn.size = 0) = z := ⟨_, rfl⟩
  obtain ⟨z1, hz1⟩ : ∃ z, decide (op = 0) = z := ⟨_, rfl⟩
  obtain ⟨z3, hz3⟩ : ∃ z, decide (fr.size = 0) = z := ⟨_, rfl⟩
  obtain ⟨n4, hn4⟩ : ∃ n, sn + mn = n := ⟨_, rfl⟩
  obtain ⟨n5, hn5⟩ : ∃ n, pn + an = n := ⟨_, rfl⟩
  have q4 : IntKind.i64.wrap ((sn : Int) + (mn : Int)) = (n4 : Int) := (wrap_ok (x := (sn : Int) + (mn : Int)) (by unfold I64; omega)).trans (by omega)
  have q5 : IntKind.i64.wrap ((pn : Int) + (an : Int)) = (n5 : Int) := (wrap_ok (x := (pn : Int) + (an : Int)) (by unfold I64; omega)).trans (by omega)
  rw [hn4, hn5]
  obtain ⟨z4, hz4⟩ : ∃ z, decide (n4 = 0) = z := ⟨_, rfl⟩
  obtain ⟨z5, hz5⟩ : ∃ z, decide (n5 = 0) = z := ⟨_, rfl⟩
  obtain ⟨z6, hz6⟩ : ∃ z, decide (en = 0) = z := ⟨_, rfl⟩
  rw [hz0, hz1, hz3, hz4, hz5, hz6]
  have p0 : tn.toList.isEmpty = z0 := by rw [← hz0, ← Bool.not_not tn.toList.isEmpty, empty_size]; simp
  have p1 : (op == 0) = z1 := by rw [← hz1]; by_cases e : op = 0 <;> simp [e]
  have p3 : fr.toList.isEmpty = z3 := by rw [← hz3, ← Bool.not_not fr.toList.isEmpty, empty_size]; simp
  have p4 : ((n4 : Int) == 0) = z4 := by rw [← hz4]; by_cases e : n4 = 0 <;> simp [e]
  have p5 : ((n5 : Int) == 0) = z5 := by rw [← hz5]; by_cases e : n5 = 0 <;> simp [e]
  have p6 : ((en : Int) == 0) = z6 := by rw [← hz6]; by_cases e : en = 0 <;> simp [e]
  clear hz0 hz1 hz3 hz4 hz5 hz6 hn4 hn5 h4 h5
  cases z1 with
  | false =>
    go_enter Tryz.func67, Tryz.ntmps67
    go_upto_region 1 with fail
    simp only [List.append_eq, List.cons_append, List.nil_append]
    go_wp2_with fail
    go_ret
    exact ⟨by simp, HB0.out⟩
  | true =>
    cases ext with
    | true =>
      go_enter Tryz.func67, Tryz.ntmps67
      go_upto_region 1 with fail
      simp only [List.append_eq, List.cons_append, List.nil_append]
      go_wp2_with fail
      go_ret
      exact ⟨by simp, HB0.out⟩
    | false =>
      cases z3 with
      | false =>
        go_enter Tryz.func67, Tryz.ntmps67
        go_upto_region 1 with fail
        simp only [List.append_eq, List.cons_append, List.nil_append]
        go_wp2_with fail
        go_ret
        exact ⟨by simp, HB0.out⟩
      | true =>
        cases z4 with
        | false =>
          go_enter Tryz.func67, Tryz.ntmps67
          go_upto_region 1 with fail
          simp only [List.append_eq, List.cons_append, List.nil_append]
          go_wp2_with fail
          go_ret
          exact ⟨by simp, HB0.out⟩
        | true =>
          cases z5 with
          | false =>
            go_enter Tryz.func67, Tryz.ntmps67
            go_upto_region 1 with fail
            simp only [List.append_eq, List.cons_append, List.nil_append]
            go_wp2_with fail
            go_ret
            exact ⟨by simp, HB0.out⟩
          | true =>
            cases z6 with
            | false =>
              go_enter Tryz.func67, Tryz.ntmps67
              go_upto_region 1 with fail
              simp only [List.append_eq, List.cons_append, List.nil_append]
              go_wp2_with fail
              go_ret
              exact ⟨by simp, HB0.out⟩
            | true =>
              go_enter Tryz.func67, Tryz.ntmps67
              go_upto_region 1 with fail
              simp only [List.append_eq, List.cons_append, List.nil_append]
              go_wp2_with fail
              go_ret
              exact ⟨by simp, HB0.out⟩
end Go.Proofs.YtgmnojnalkhepaaGreatDoor
