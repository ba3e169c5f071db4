/-
  A bundle of texts, one behind the other: ShT2B, ShT2C, ShT2D.
-/
import Derived.Test.YtgmnojnalkhepaaGreatDoorJC
/-
  Package shape: are the fields of a type as its Kind asks (B)?
-/
namespace Go.Proofs.YtgmnojnalkhepaaGreatDoor
open Go.RowKit
set_option linter.unusedVariables false
set_option linter.unusedSimpArgs false
set_option maxRecDepth 100000

set_option maxHeartbeats 8000000 in
theorem hasTy_6 (cs : List Value) (hl : cs.length = 15) (h0 : cs[0]? = some (.int .i64 6)) (w : World) (b0 b1 ext b3 b4 b5 b6 b7 b8 : Bool)
    (hs : ∀ w, Calls Tryz.prog 81 #[.agg cs.toArray] w fun e w' => e = .returned (.agg #[.bool b0, .bool b1, .bool ext, .bool b3, .bool b4, .bool b5, .bool b6, .bool b7, .bool b8]) ∧ Below w.heap.size w w') :
    Calls Tryz.prog 53 #[.agg cs.toArray] w fun e w' => e = .returned (.bool (tFlds 6 b0 b1 ext b3 b4 b5 b6 b7 b8)) ∧ Below w.heap.size w w' := by
  have HS := Lib.hid hs
  have HL := Lib.hid hl
  have H0 := Lib.hid (show cs.toArray[0]? = some (Value.int .i64 6) by simpa using h0)
  have HX := Lib.hid (Bx.new w cs.toArray 39)
  have HB0 := Lib.hid ((Below.refl w.heap.size w).alloc (Nat.le_refl _) (.cells cs.toArray 39))
  obtain ⟨r, hr⟩ : ∃ r, tFlds 6 b0 b1 ext b3 b4 b5 b6 b7 b8 = r := ⟨_, rfl⟩
  have HR := Lib.hid hr
  rw [hr]
  clear hs hl h0 hr
  go_enter Tryz.func53, Tryz.ntmps53
  go_wp2_with (refine wpList_load_mid rfl 39 (.tmp 1) rfl w.heap.size 0 rfl cs _ HX.out.range Tryz.underlying39 rfl (by rw [info_T15, HL.out]) ?_)
  refine (HS.out _).mono ?_
  rintro e w1 ⟨rfl, hb⟩
  have HB1 := Lib.hid (HB0.out.trans (hb.mono HB0.out.size))
  have hx1 := HX.out.below hb HX.out.lt
  have c0 : ∀ o, (w1.alloc o).cell? ⟨w.heap.size, 0, none⟩ = some (.int .i64 6) := fun o => (hx1.alloc o).cell 0 H0.out
  clear hb hx1 HX HS HB0 H0 HL
  go_wp2_with fail
  all_goals go_ret
  all_goals refine ⟨?_, HB1.out.alloc HB1.out.size _⟩
  all_goals (have hr := HR.out; clear HR HB1 c0; simp only [tFlds] at hr; simp_all)
set_option maxHeartbeats 8000000 in
theorem hasTy_7 (cs : List Value) (hl : cs.length = 15) (h0 : cs[0]? = some (.int .i64 7)) (w : World) (b0 b1 ext b3 b4 b5 b6 b7 b8 : Bool)
    (hs : ∀ w, Calls Tryz.prog 81 #[.agg cs.toArray] w fun e w' => e = .returned (.agg #[.bool b0, .bool b1, .bool ext, .bool b3, .bool b4, .bool b5, .bool b6, .bool b7, .bool b8]) ∧ Below w.heap.size w w') :
    Calls Tryz.prog 53 #[.agg cs.toArray] w fun e w' => e = .returned (.bool (tFlds 7 b0 b1 ext b3 b4 b5 b6 b7 b8)) ∧ Below w.heap.size w w' := by
  have HS := Lib.hid hs
  have HL := Lib.hid hl
  have H0 := Lib.hid (show cs.toArray[0]? = some (Value.int .i64 7) by simpa using h0)
  have HX := Lib.hid (Bx.new w cs.toArray 39)
  have HB0 := Lib.hid ((Below.refl w.heap.size w).alloc (Nat.le_refl _) (.cells cs.toArray 39))
  obtain ⟨r, hr⟩ : ∃ r, tFlds 7 b0 b1 ext b3 b4 b5 b6 b7 b8 = r := ⟨_, rfl⟩
  have HR := Lib.hid hr
  rw [hr]
  clear hs hl h0 hr
  go_enter Tryz.func53, Tryz.ntmps53
  go_wp2_with (refine wpList_load_mid rfl 39 (.tmp 1) rfl w.heap.size 0 rfl cs _ HX.out.range Tryz.underlying39 rfl (by rw [info_T15, HL.out]) ?_)
  refine (HS.out _).mono ?_
  rintro e w1 ⟨rfl, hb⟩
  have HB1 := Lib.hid (HB0.out.trans (hb.mono HB0.out.size))
  have hx1 := HX.out.below hb HX.out.lt
  have c0 : ∀ o, (w1.alloc o).cell? ⟨w.heap.size, 0, none⟩ = some (.int .i64 7) := fun o => (hx1.alloc o).cell 0 H0.out
  clear hb hx1 HX HS HB0 H0 HL
  go_wp2_with fail
  all_goals go_ret
  all_goals refine ⟨?_, HB1.out.alloc HB1.out.size _⟩
  all_goals (have hr := HR.out; clear HR HB1 c0; simp only [tFlds] at hr; simp_all)
set_option maxHeartbeats 8000000 in
theorem hasTy_3 (cs : List Value) (hl : cs.length = 15) (h0 : cs[0]? = some (.int .i64 3)) (w : World) (b0 b1 ext b3 b4 b5 b6 b7 b8 : Bool)
    (hs : ∀ w, Calls Tryz.prog 81 #[.agg cs.toArray] w fun e w' => e = .returned (.agg #[.bool b0, .bool b1, .bool ext, .bool b3, .bool b4, .bool b5, .bool b6, .bool b7, .bool b8]) ∧ Below w.heap.size w w') :
    Calls Tryz.prog 53 #[.agg cs.toArray] w fun e w' => e = .returned (.bool (tFlds 3 b0 b1 ext b3 b4 b5 b6 b7 b8)) ∧ Below w.heap.size w w' := by
  have HS := Lib.hid hs
  have HL := Lib.hid hl
  have H0 := Lib.hid (show cs.toArray[0]? = some (Value.int .i64 3) by simpa using h0)
  have HX := Lib.hid (Bx.new w cs.toArray 39)
  have HB0 := Lib.hid ((Below.refl w.heap.size w).alloc (Nat.le_refl _) (.cells cs.toArray 39))
  obtain ⟨r, hr⟩ : ∃ r, tFlds 3 b0 b1 ext b3 b4 b5 b6 b7 b8 = r := ⟨_, rfl⟩
  have HR := Lib.hid hr
  rw [hr]
  clear hs hl h0 hr
  go_enter Tryz.func53, Tryz.ntmps53
  go_wp2_with (refine wpList_load_mid rfl 39 (.tmp 1) rfl w.heap.size 0 rfl cs _ HX.out.range Tryz.underlying39 rfl (by rw [info_T15, HL.out]) ?_)
  refine (HS.out _).mono ?_
  rintro e w1 ⟨rfl, hb⟩
  have HB1 := Lib.hid (HB0.out.trans (hb.mono HB0.out.size))
  have hx1 := HX.out.below hb HX.out.lt
  have c0 : ∀ o, (w1.alloc o).cell? ⟨w.heap.size, 0, none⟩ = some (.int .i64 3) := fun o => (hx1.alloc o).cell 0 H0.out
  clear hb hx1 HX HS HB0 H0 HL
  go_wp2_with fail
  all_goals go_ret
  all_goals refine ⟨?_, HB1.out.alloc HB1.out.size _⟩
  all_goals (have hr := HR.out; clear HR HB1 c0; simp only [tFlds] at hr; simp_all)
end Go.Proofs.YtgmnojnalkhepaaGreatDoor

/-
  Package shape: are the fields of a type as its Kind asks (C)?
-/
namespace Go.Proofs.YtgmnojnalkhepaaGreatDoor
open Go.RowKit
set_option linter.unusedVariables false
set_option linter.unusedSimpArgs false
set_option maxRecDepth 100000

set_option maxHeartbeats 8000000 in
theorem hasTy_8 (cs : List Value) (hl : cs.length = 15) (h0 : cs[0]? = some (.int .i64 8)) (w : World) (b0 b1 ext b3 b4 b5 b6 b7 b8 : Bool)
    (hs : ∀ w, Calls Tryz.prog 81 #[.agg cs.toArray] w fun e w' => e = .returned (.agg #[.bool b0, .bool b1, .bool ext, .bool b3, .bool b4, .bool b5, .bool b6, .bool b7, .bool b8]) ∧ Below w.heap.size w w') :
    Calls Tryz.prog 53 #[.agg cs.toArray] w fun e w' => e = .returned (.bool (tFlds 8 b0 b1 ext b3 b4 b5 b6 b7 b8)) ∧ Below w.heap.size w w' := by
  have HS := Lib.hid hs
  have HL := Lib.hid hl
  have H0 := Lib.hid (show cs.toArray[0]? = some (Value.int .i64 8) by simpa using h0)
  have HX := Lib.hid (Bx.new w cs.toArray 39)
  have HB0 := Lib.hid ((Below.refl w.heap.size w).alloc (Nat.le_refl _) (.cells cs.toArray 39))
  obtain ⟨r, hr⟩ : ∃ r, tFlds 8 b0 b1 ext b3 b4 b5 b6 b7 b8 = r := ⟨_, rfl⟩
  have HR := Lib.hid hr
  rw [hr]
  clear hs hl h0 hr
  go_enter Tryz.func53, Tryz.ntmps53
  go_wp2_with (refine wpList_load_mid rfl 39 (.tmp 1) rfl w.heap.size 0 rfl cs _ HX.out.range Tryz.underlying39 rfl (by rw [info_T15, HL.out]) ?_)
  refine (HS.out _).mono ?_
  rintro e w1 ⟨rfl, hb⟩
  have HB1 := Lib.hid (HB0.out.trans (hb.mono HB0.out.size))
  have hx1 := HX.out.below hb HX.out.lt
  have c0 : ∀ o, (w1.alloc o).cell? ⟨w.heap.size, 0, none⟩ = some (.int .i64 8) := fun o => (hx1.alloc o).cell 0 H0.out
  clear hb hx1 HX HS HB0 H0 HL
  go_wp2_with fail
  all_goals go_ret
  all_goals refine ⟨?_, HB1.out.alloc HB1.out.size _⟩
  all_goals (have hr := HR.out; clear HR HB1 c0; simp only [tFlds] at hr; simp_all)
set_option maxHeartbeats 8000000 in
theorem hasTy_10 (cs : List Value) (hl : cs.length = 15) (h0 : cs[0]? = some (.int .i64 10)) (w : World) (b0 b1 ext b3 b4 b5 b6 b7 b8 : Bool)
    (hs : ∀ w, Calls Tryz.prog 81 #[.agg cs.toArray] w fun e w' => e = .returned (.agg #[.bool b0, .bool b1, .bool ext, .bool b3, .bool b4, .bool b5, .bool b6, .bool b7, .bool b8]) ∧ Below w.heap.size w w') :
    Calls Tryz.prog 53 #[.agg cs.toArray] w fun e w' => e = .returned (.bool (tFlds 10 b0 b1 ext b3 b4 b5 b6 b7 b8)) ∧ Below w.heap.size w w' := by
  have HS := Lib.hid hs
  have HL := Lib.hid hl
  have H0 := Lib.hid (show cs.toArray[0]? = some (Value.int .i64 10) by simpa using h0)
  have HX := Lib.hid (Bx.new w cs.toArray 39)
  have HB0 := Lib.hid ((Below.refl w.heap.size w).alloc (Nat.le_refl _) (.cells cs.toArray 39))
  obtain ⟨r, hr⟩ : ∃ r, tFlds 10 b0 b1 ext b3 b4 b5 b6 b7 b8 = r := ⟨_, rfl⟩
  have HR := Lib.hid hr
  rw [hr]
  clear hs hl h0 hr
  go_enter Tryz.func53, Tryz.ntmps53
  go_wp2_with (refine wpList_load_mid rfl 39 (.tmp 1) rfl w.heap.size 0 rfl cs _ HX.out.range Tryz.underlying39 rfl (by rw [info_T15, HL.out]) ?_)
  refine (HS.out _).mono ?_
  rintro e w1 ⟨rfl, hb⟩
  have HB1 := Lib.hid (HB0.out.trans (hb.mono HB0.out.size))
  have hx1 := HX.out.below hb HX.out.lt
  have c0 : ∀ o, (w1.alloc o).cell? ⟨w.heap.size, 0, none⟩ = some (.int .i64 10) := fun o => (hx1.alloc o).cell 0 H0.out
  clear hb hx1 HX HS HB0 H0 HL
  go_wp2_with fail
  all_goals go_ret
  all_goals refine ⟨?_, HB1.out.alloc HB1.out.size _⟩
  all_goals (have hr := HR.out; clear HR HB1 c0; simp only [tFlds] at hr; simp_all)
end Go.Proofs.YtgmnojnalkhepaaGreatDoor

/-
  Package shape: are the fields of a type as its Kind asks (D)?
-/
namespace Go.Proofs.YtgmnojnalkhepaaGreatDoor
open Go.RowKit
set_option linter.unusedVariables false
set_option linter.unusedSimpArgs false
set_option maxRecDepth 100000

set_option maxHeartbeats 8000000 in
theorem hasTy_9 (cs : List Value) (hl : cs.length = 15) (h0 : cs[0]? = some (.int .i64 9)) (w : World) (b0 b1 ext b3 b4 b5 b6 b7 b8 : Bool)
    (hs : ∀ w, Calls Tryz.prog 81 #[.agg cs.toArray] w fun e w' => e = .returned (.agg #[.bool b0, .bool b1, .bool ext, .bool b3, .bool b4, .bool b5, .bool b6, .bool b7, .bool b8]) ∧ Below w.heap.size w w') :
    Calls Tryz.prog 53 #[.agg cs.toArray] w fun e w' => e = .returned (.bool (tFlds 9 b0 b1 ext b3 b4 b5 b6 b7 b8)) ∧ Below w.heap.size w w' := by
  have HS := Lib.hid hs
  have HL := Lib.hid hl
  have H0 := Lib.hid (show cs.toArray[0]? = some (Value.int .i64 9) by simpa using h0)
  have HX := Lib.hid (Bx.new w cs.toArray 39)
  have HB0 := Lib.hid ((Below.refl w.heap.size w).alloc (Nat.le_refl _) (.cells cs.toArray 39))
  obtain ⟨r, hr⟩ : ∃ r, tFlds 9 b0 b1 ext b3 b4 b5 b6 b7 b8 = r := ⟨_, rfl⟩
  have HR := Lib.hid hr
  rw [hr]
  clear hs hl h0 hr
  go_enter Tryz.func53, Tryz.ntmps53
  go_wp2_with (refine wpList_load_mid rfl 39 (.tmp 1) rfl w.heap.size 0 rfl cs _ HX.out.range Tryz.underlying39 rfl (by rw [info_T15, HL.out]) ?_)
  refine (HS.out _).mono ?_
  rintro e w1 ⟨rfl, hb⟩
  have HB1 := Lib.hid (HB0.out.trans (hb.mono HB0.out.size))
  have hx1 := HX.out.below hb HX.out.lt
  have c0 : ∀ o, (w1.alloc o).cell? ⟨w.heap.size, 0, none⟩ = some (.int .i64 9) := fun o => (hx1.alloc o).cell 0 H0.out
  clear hb hx1 HX HS HB0 H0 HL
  go_wp2_with fail
  all_goals go_ret
  all_goals refine ⟨?_, HB1.out.alloc HB1.out.size _⟩
  all_goals (have hr := HR.out; clear HR HB1 c0; simp only [tFlds] at hr; simp_all)
set_option maxHeartbeats 8000000 in
theorem hasTy_11 (cs : List Value) (hl : cs.length = 15) (h0 : cs[0]? = some (.int .i64 11)) (w : World) (b0 b1 ext b3 b4 b5 b6 b7 b8 : Bool)
    (hs : ∀ w, Calls Tryz.prog 81 #[.agg cs.toArray] w fun e w' => e = .returned (.agg #[.bool b0, .bool b1, .bool ext, .bool b3, .bool b4, .bool b5, .bool b6, .bool b7, .bool b8]) ∧ Below w.heap.size w w') :
    Calls Tryz.prog 53 #[.agg cs.toArray] w fun e w' => e = .returned (.bool (tFlds 11 b0 b1 ext b3 b4 b5 b6 b7 b8)) ∧ Below w.heap.size w w' := by
  have HS := Lib.hid hs
  have HL := Lib.hid hl
  have H0 := Lib.hid (show cs.toArray[0]? = some (Value.int .i64 11) by simpa using h0)
  have HX := Lib.hid (Bx.new w cs.toArray 39)
  have HB0 := Lib.hid ((Below.refl w.heap.size w).alloc (Nat.le_refl _) (.cells cs.toArray 39))
  obtain ⟨r, hr⟩ : ∃ r, tFlds 11 b0 b1 ext b3 b4 b5 b6 b7 b8 = r := ⟨_, rfl⟩
  have HR := Lib.hid hr
  rw [hr]
  clear hs hl h0 hr
  go_enter Tryz.func53, Tryz.ntmps53
  go_wp2_with (refine wpList_load_mid rfl 39 (.tmp 1) rfl w.heap.size 0 rfl cs _ HX.out.range Tryz.underlying39 rfl (by rw [info_T15, HL.out]) ?_)
  refine (HS.out _).mono ?_
  rintro e w1 ⟨rfl, hb⟩
  have HB1 := Lib.hid (HB0.out.trans (hb.mono HB0.out.size))
  have hx1 := HX.out.below hb HX.out.lt
  have c0 : ∀ o, (w1.alloc o).cell? ⟨w.heap.size, 0, none⟩ = some (.int .i64 11) := fun o => (hx1.alloc o).cell 0 H0.out
  clear hb hx1 HX HS HB0 H0 HL
  go_wp2_with fail
  all_goals go_ret
  all_goals refine ⟨?_, HB1.out.alloc HB1.out.size _⟩
  all_goals (have hr := HR.out; clear HR HB1 c0; simp only [tFlds] at hr; simp_all)
set_option maxHeartbeats 8000000 in
theorem hasTy_o (kd : Int) (ho : ¬ (kd = 1 ∨ kd = 4 ∨ kd = 2 ∨ kd = 5 ∨ kd = 6 ∨ kd = 7 ∨ kd = 3 ∨ kd = 8 ∨ kd = 10 ∨ kd = 9 ∨ kd = 11)) (cs : List Value) (hl : cs.length = 15) (h0 : cs[0]? = some (.int .i64 kd)) (w : World) (b0 b1 ext b3 b4 b5 b6 b7 b8 : Bool)
    (hs : ∀ w, Calls Tryz.prog 81 #[.agg cs.toArray] w fun e w' => e = .returned (.agg #[.bool b0, .bool b1, .bool ext, .bool b3, .bool b4, .bool b5, .bool b6, .bool b7, .bool b8]) ∧ Below w.heap.size w w') :
    Calls Tryz.prog 53 #[.agg cs.toArray] w fun e w' => e = .returned (.bool (tFlds kd b0 b1 ext b3 b4 b5 b6 b7 b8)) ∧ Below w.heap.size w w' := by
  have HS := Lib.hid hs
  have HL := Lib.hid hl
  have H0 := Lib.hid (show cs.toArray[0]? = some (Value.int .i64 kd) by simpa using h0)
  have HX := Lib.hid (Bx.new w cs.toArray 39)
  have HB0 := Lib.hid ((Below.refl w.heap.size w).alloc (Nat.le_refl _) (.cells cs.toArray 39))
  obtain ⟨r, hr⟩ : ∃ r, tFlds kd b0 b1 ext b3 b4 b5 b6 b7 b8 = r := ⟨_, rfl⟩
  have HR := Lib.hid hr
  rw [hr]
  have p1 : (kd == 1) = false := by simp; omega
  have p4 : (kd == 4) = false := by simp; omega
  have p2 : (kd == 2) = false := by simp; omega
  have p5 : (kd == 5) = false := by simp; omega
  have p6 : (kd == 6) = false := by simp; omega
  have p7 : (kd == 7) = false := by simp; omega
  have p3 : (kd == 3) = false := by simp; omega
  have p8 : (kd == 8) = false := by simp; omega
  have p10 : (kd == 10) = false := by simp; omega
  have p9 : (kd == 9) = false := by simp; omega
  have p11 : (kd == 11) = false := by simp; omega
  have HF := Lib.hid (show r = false by rw [← hr]; unfold tFlds; rw [if_neg (by omega), if_neg (by omega), if_neg (by omega), if_neg (by omega), if_neg (by omega), if_neg (by omega), if_neg (by omega), if_neg (by omega)])
  clear ho
  clear hs hl h0 hr
  go_enter Tryz.func53, Tryz.ntmps53
  go_wp2_with (refine wpList_load_mid rfl 39 (.tmp 1) rfl w.heap.size 0 rfl cs _ HX.out.range Tryz.underlying39 rfl (by rw [info_T15, HL.out]) ?_)
  refine (HS.out _).mono ?_
  rintro e w1 ⟨rfl, hb⟩
  have HB1 := Lib.hid (HB0.out.trans (hb.mono HB0.out.size))
  have hx1 := HX.out.below hb HX.out.lt
  have c0 : ∀ o, (w1.alloc o).cell? ⟨w.heap.size, 0, none⟩ = some (.int .i64 kd) := fun o => (hx1.alloc o).cell 0 H0.out
  clear hb hx1 HX HS HB0 H0 HL
  go_wp2_with fail
  all_goals go_ret
  all_goals refine ⟨?_, HB1.out.alloc HB1.out.size _⟩
  all_goals (rw [HF.out]; rfl)
end Go.Proofs.YtgmnojnalkhepaaGreatDoor
