/-
  A bundle of texts, one behind the other: McC.
-/
import Derived.Test.YtjhecpkdpomkmaaGreatRF
import Derived.Test.YtjhecpkdpomkmaaGreatQW
namespace Go.Proofs.YtjhecpkdpomkmaaGreat
open Go.RowKit
set_option linter.unusedVariables false
set_option linter.unusedSimpArgs false
set_option maxRecDepth 100000

theorem info_D12 : (Tryz.prog.info? 46).map (·.size) = some 12 := by kernel_rfl
theorem rIdx_ge (s : SL) (x : ByteArray) : decide (0 ≤ rIdx s x) = inL s x := by
  unfold rIdx inL
  split
  · next h =>
    rw [anyN_yes (f := fun i => sEq (s.f i) x) h (fst_yes (fun i => sEq (s.f i) x) s.n h)]
    exact decide_eq_true (by omega)
  · next h =>
    have h1 := fst_le (fun i => sEq (s.f i) x) s.n
    rw [anyN_no fun j hj => fst_no (fun i => sEq (s.f i) x) s.n j (by omega)]
    decide
theorem has_octet_any (fr : ByteArray) (c : Nat) : hasOctet fr c = anyN (fun j => byteAt fr j == c) fr.size := by
  rw [Bool.eq_iff_iff, anyN_iff]
  unfold hasOctet
  rw [List.any_eq_true]
  constructor
  · rintro ⟨b, hb, hc⟩
    obtain ⟨j, hj, rfl⟩ := List.getElem_of_mem hb
    have hj' : j < fr.size := hj
    refine ⟨j, hj', ?_⟩
    rw [← byteAt_eq hj']
    exact hc
  · rintro ⟨j, hj, hc⟩
    rw [← byteAt_eq hj] at hc
    exact ⟨fr.data.toList[j]'hj, List.getElem_mem _, hc⟩
theorem chars_7 {r : DT} (h : r.kind = 7) (s : ByteArray) : r.chars s = charsB r.fr s := by
  unfold DT.chars charsB
  refine allN_congr fun k hk => ?_
  unfold DT.chr chrB
  rw [if_neg (by omega), if_neg (by omega)]
  by_cases hf : r.fr.size = 0
  · rw [if_pos hf, decide_eq_true hf, hf]
    simp [anyN, allN]
  · rw [if_neg hf, decide_eq_false hf, has_octet_any]
    simp
theorem chars_5 {r : DT} (h : r.kind = 5) (s : ByteArray) : r.chars s = charsB ⟨#[48, 49]⟩ s := by
  unfold DT.chars charsB
  refine allN_congr fun k hk => ?_
  unfold DT.chr chrB
  rw [if_pos h]
  have e : anyN (fun j => byteAt ⟨#[48, 49]⟩ j == byteAt s k) (⟨#[48, 49]⟩ : ByteArray).size = ((48 == byteAt s k) || (49 == byteAt s k)) := by
    show anyN _ 2 = _
    unfold anyN
    simp [allN, Bool.not_and, byteAt]
  rw [e]
  simp [ByteArray.size, Bool.beq_comm, eq_comm]
theorem chars_6 {r : DT} (h : r.kind = 6) (s : ByteArray) : r.chars s = true := by
  unfold DT.chars
  refine allN_true fun k hk => ?_
  unfold DT.chr
  rw [if_neg (by omega), if_pos h]
set_option maxHeartbeats 32000000 in
theorem rof_1 (B : Nat) (w : World) (d : TB) (i room : Nat) (m : Int) (s : ByteArray) (nm : SL) (a : Option Addr) (n cap : Nat) (ch : Nat → VT) (hd : TBIn B w d) (hB : B ≤ w.heap.size) (hi : i < d.n) (hv : VIn B w (.mk 1 m s nm a n cap ch)) (hk : (d.f i).kind = 1) (hset : (d.f i).set.n ≤ 1000) :
    Calls Tryz.prog 58 #[.slice d.a d.n d.cap, .int .i64 (i : Nat), .agg (VT.mk 1 m s nm a n cap ch).cells.toArray, .int .i64 (room : Nat)] w fun e w' => e = .returned (.bool ((VT.mk 1 m s nm a n cap ch).has d i)) ∧ Below w.heap.size w w' := by
  have hbd : bare 1 m s.size nm.n n = decide (nm.n = 0 ∧ n = 0 ∧ s.size = 0) := by
    generalize s.size = sz
    unfold bare
    rw [Bool.eq_iff_iff, decide_eq_true_iff]
    simp
    try omega
  have hhas : (VT.mk 1 m s nm a n cap ch).has d i = (decide (nm.n = 0 ∧ n = 0 ∧ s.size = 0) && (decide (m = 0) || decide (m = 1))) := by
    simp only [VT.has]
    rw [hk, hbd]
    simp
  obtain ⟨res, hres⟩ : ∃ x, (decide (nm.n = 0 ∧ n = 0 ∧ s.size = 0) && (decide (m = 0) || decide (m = 1))) = x := ⟨_, rfl⟩
  rw [hhas, hres, list5]
  have HDI := Lib.hid ((hd.2 i hi).below (Below.refl w.heap.size w) hB)
  have HIN := Lib.hid (show s.size ≤ 140737488355328 from hv.1.2.2.1)
  obtain ⟨gx, ox, hix, hgx, hrd⟩ := hd.1.read 22 46 Tryz.underlying22 (by kernel_rfl) Tryz.sizeOf46 hi
  obtain ⟨r, hr⟩ : ∃ r, d.f i = r := ⟨_, rfl⟩
  have HX := Lib.hid (Bx.new w #[.int .i64 1, .int .i64 m, .string s, .slice nm.a nm.n nm.cap, .slice a n cap] 26)
  have HB := Lib.hid ((Below.refl w.heap.size w).alloc (Nat.le_refl _) (.cells #[.int .i64 1, .int .i64 m, .string s, .slice nm.a nm.n nm.cap, .slice a n cap] 26))
  have hra : (w.alloc (.cells #[.int .i64 1, .int .i64 m, .string s, .slice nm.a nm.n nm.cap, .slice a n cap] 26)).rangeAt gx ox r.cells := fun j u hj => hrd _ (HB.out.block gx (by omega)) j u (by rw [hr]; exact hj)
  have HRA := Lib.hid hra
  rw [hr] at HDI hk hset
  try rw [hr] at hres
  have HRES := Lib.hid hres
  have HKD := Lib.hid hk
  have HST := Lib.hid hset
  have HO := Lib.hid (one_dcells15 r)
  clear hd hB hi hv hbd hhas hgx hrd hr hra hset hres
  go_enter Tryz.func58, Tryz.ntmps58
  go_upto_region 1 with fail
  generalize hW0 : w.alloc (.cells #[.int .i64 1, .int .i64 m, .string s, .slice nm.a nm.n nm.cap, .slice a n cap] 26) = W0 at *
  have HSZ := Lib.hid (show W0.heap.size = w.heap.size + 1 from by rw [← hW0, World.size_alloc])
  clear hW0
  go_upto_region 2 with (first | (refine wpList_load_mid rfl 46 (.tmp 15) rfl gx ox rfl r.cells _ HRA.out Tryz.underlying46 rfl (by rw [info_D12, HO.out.1]) ?_) | (refine wpList_store_new rfl 46 (.tmp 9) (.tmp 16) rfl 12 _ r.cells HO.out.1 (by rfl) info_D12 HO.out.2 rfl rfl ?_))
  (try dsimp only [Act.put])
  have HX9 := Lib.hid (Bx.new W0 r.cells.toArray 46)
  have HX1 := Lib.hid (HX.out.alloc (.cells r.cells.toArray 46))
  have HB1 := Lib.hid (HB.out.alloc HB.out.size (.cells r.cells.toArray 46))
  generalize W0.alloc (.cells r.cells.toArray 46) = W1 at *
  obtain ⟨g, hg⟩ : ∃ g, W0.heap.size = g := ⟨_, rfl⟩
  rw [hg] at HX9 HSZ ⊢
  clear hg HX HRA
  obtain ⟨c0, c1, c2, c3, c4⟩ := fiveX HX1.out
  have d0 := HX9.out.cell 0 (v := .int .i64 r.kind) rfl
  rw [hk] at d0
  have d1 := HX9.out.cell 1 (v := .bool r.ext) rfl
  have d2 := HX9.out.cell 2 (v := .slice r.set.a r.set.n r.set.cap) rfl
  have d5 := HX9.out.cell 5 (v := .string r.fr) rfl
  have d6 := HX9.out.cell 6 (v := .slice r.nm.a r.nm.n r.nm.cap) rfl
  have d7 := HX9.out.cell 7 (v := .slice r.mo.a r.mo.n r.mo.cap) rfl
  have HPT := Lib.hid (show ∀ W : World, Calls Tryz.prog 93 #[.int .i64 1] W fun e w' => e = .returned (.bool false) ∧ w' = W from fun W => rparted_ok W 1)
  clear hk
  go_cut [30] from 17 to 30 (fun v wr => v = .bool false ∧ W1 = wr)
  case first =>
    by_cases hrm : room = 0
    · have q1 : ((room : Int) == 0) = true := by simp [hrm]
      clear hrm
      go_wp2_with fail
      refine (HPT.out _).mono ?_
      rintro e w2 ⟨rfl, rfl⟩
      go_wp2_with fail
      go_meet
      exact ⟨rfl, rfl⟩
    · have q1 : ((room : Int) == 0) = false := beq_eq_false_iff_ne.2 (by omega)
      clear hrm
      go_wp2_with fail
      go_meet
      exact ⟨rfl, rfl⟩
  obtain ⟨rfl, rfl⟩ := hcut
  by_cases hn : nm.n = 0
  case neg =>
    have n2 : decide ((0 : Int) < (nm.n : Int)) = true := decide_eq_true (by omega)
    have n3 : decide (0 < nm.n) = true := decide_eq_true (by omega)
    have HZ := Lib.hid (show res = false from by rw [← HRES.out, decide_eq_false (by omega)]; rfl)
    clear hn
    go_wp2_with fail
    go_ret
    exact ⟨by rw [HZ.out]; rfl, HB1.out⟩
  case pos =>
  have n2 : decide ((0 : Int) < (nm.n : Int)) = false := decide_eq_false (by omega)
  have n3 : decide (0 < nm.n) = false := decide_eq_false (by omega)
  have HNN := Lib.hid hn
  clear hn
  by_cases hl : n = 0
  case neg =>
    have l2 : decide ((0 : Int) < (n : Int)) = true := decide_eq_true (by omega)
    have l3 : decide (0 < n) = true := decide_eq_true (by omega)
    have HZ := Lib.hid (show res = false from by rw [← HRES.out, decide_eq_false (by omega)]; rfl)
    clear hl
    by_cases hm : m = 0
    · have m1 : (m != 0) = false := by rw [hm]; rfl
      have m2 : (m == 0) = true := by rw [hm]; rfl
      clear hm
      go_wp2_with fail
      go_ret
      exact ⟨by rw [HZ.out]; rfl, HB1.out⟩
    · have m1 : (m != 0) = true := bne_iff_ne.2 hm
      have m2 : (m == 0) = false := beq_eq_false_iff_ne.2 hm
      clear hm
      go_wp2_with fail
      go_ret
      exact ⟨by rw [HZ.out]; rfl, HB1.out⟩
  case pos =>
  have l2 : decide ((0 : Int) < (n : Int)) = false := decide_eq_false (by omega)
  have l3 : decide (0 < n) = false := decide_eq_false (by omega)
  have HLL := Lib.hid hl
  clear hl
  go_upto_region 6 with fail
  go_cut [73] from 39 to 73 (fun v wx => v = .bool false ∧ W1 = wx)
  case first =>
    by_cases hm : m = 0
    · have m1 : (m != 0) = false := by rw [hm]; rfl
      have m2 : (m == 0) = true := by rw [hm]; rfl
      clear hm
      go_wp2_with fail
      go_meet
      exact ⟨rfl, rfl⟩
    · have m1 : (m != 0) = true := bne_iff_ne.2 hm
      have m2 : (m == 0) = false := beq_eq_false_iff_ne.2 hm
      clear hm
      go_wp2_with fail
      go_meet
      exact ⟨rfl, rfl⟩
  obtain ⟨rfl, rfl⟩ := hcut
  clear n2 n3 l2 l3
  have hes := empty_str s
  by_cases hs : s.size = 0
  case neg =>
    have s1 : s.toList.isEmpty = false := by rw [hes, decide_eq_false hs]
    have s2 : (!s.toList.isEmpty) = true := by rw [s1]; rfl
    have HZ := Lib.hid (show res = false from by rw [← HRES.out, decide_eq_false (by omega)]; rfl)
    clear hs hes
    go_wp2_with fail
    go_ret
    exact ⟨by rw [HZ.out]; rfl, HB1.out⟩
  case pos =>
  have s1 : s.toList.isEmpty = true := by rw [hes, decide_eq_true hs]
  have s2 : (!s.toList.isEmpty) = false := by rw [s1]; rfl
  have HRE := Lib.hid (show res = (decide (m = 0) || decide (m = 1)) from by rw [← HRES.out, decide_eq_true (by have h1 := HNN.out; have h3 := HLL.out; omega)]; rfl)
  clear hs hes
  by_cases h0 : m = 0
  · have m1 : (m == 0) = true := by rw [h0]; rfl
    have HZ := Lib.hid (show res = true from by rw [HRE.out, decide_eq_true h0]; rfl)
    clear h0
    go_wp2_with fail
    go_ret
    exact ⟨by rw [HZ.out]; rfl, HB1.out⟩
  have m1 : (m == 0) = false := beq_eq_false_iff_ne.2 h0
  by_cases h1 : m = 1
  · have m3 : (m == 1) = true := by rw [h1]; rfl
    have HZ := Lib.hid (show res = true from by rw [HRE.out, decide_eq_true h1, Bool.or_true])
    clear h0 h1
    go_wp2_with fail
    go_ret
    exact ⟨by rw [HZ.out]; rfl, HB1.out⟩
  have m3 : (m == 1) = false := beq_eq_false_iff_ne.2 h1
  have HZ := Lib.hid (show res = false from by rw [HRE.out, decide_eq_false h0, decide_eq_false h1]; rfl)
  clear h0 h1
  go_wp2_with fail
  go_ret
  exact ⟨by rw [HZ.out]; rfl, HB1.out⟩
set_option maxHeartbeats 32000000 in
theorem rof_2 (B : Nat) (w : World) (d : TB) (i room : Nat) (m : Int) (s : ByteArray) (nm : SL) (a : Option Addr) (n cap : Nat) (ch : Nat → VT) (hd : TBIn B w d) (hB : B ≤ w.heap.size) (hi : i < d.n) (hv : VIn B w (.mk 2 m s nm a n cap ch)) (hk : (d.f i).kind = 2) (hset : (d.f i).set.n ≤ 1000) :
    Calls Tryz.prog 58 #[.slice d.a d.n d.cap, .int .i64 (i : Nat), .agg (VT.mk 2 m s nm a n cap ch).cells.toArray, .int .i64 (room : Nat)] w fun e w' => e = .returned (.bool ((VT.mk 2 m s nm a n cap ch).has d i)) ∧ Below w.heap.size w w' := by
  have hbd : bare 2 m s.size nm.n n = decide (nm.n = 0 ∧ n = 0 ∧ s.size = 0) := by
    generalize s.size = sz
    unfold bare
    rw [Bool.eq_iff_iff, decide_eq_true_iff]
    simp
    try omega
  have hhas : (VT.mk 2 m s nm a n cap ch).has d i = (decide (nm.n = 0 ∧ n = 0 ∧ s.size = 0) && ((d.f i).admits m)) := by
    simp only [VT.has]
    rw [hk, hbd]
    simp
  obtain ⟨res, hres⟩ : ∃ x, (decide (nm.n = 0 ∧ n = 0 ∧ s.size = 0) && ((d.f i).admits m)) = x := ⟨_, rfl⟩
  rw [hhas, hres, list5]
  have HDI := Lib.hid ((hd.2 i hi).below (Below.refl w.heap.size w) hB)
  have HIN := Lib.hid (show s.size ≤ 140737488355328 from hv.1.2.2.1)
  obtain ⟨gx, ox, hix, hgx, hrd⟩ := hd.1.read 22 46 Tryz.underlying22 (by kernel_rfl) Tryz.sizeOf46 hi
  obtain ⟨r, hr⟩ : ∃ r, d.f i = r := ⟨_, rfl⟩
  have HX := Lib.hid (Bx.new w #[.int .i64 2, .int .i64 m, .string s, .slice nm.a nm.n nm.cap, .slice a n cap] 26)
  have HB := Lib.hid ((Below.refl w.heap.size w).alloc (Nat.le_refl _) (.cells #[.int .i64 2, .int .i64 m, .string s, .slice nm.a nm.n nm.cap, .slice a n cap] 26))
  have hra : (w.alloc (.cells #[.int .i64 2, .int .i64 m, .string s, .slice nm.a nm.n nm.cap, .slice a n cap] 26)).rangeAt gx ox r.cells := fun j u hj => hrd _ (HB.out.block gx (by omega)) j u (by rw [hr]; exact hj)
  have HRA := Lib.hid hra
  rw [hr] at HDI hk hset
  try rw [hr] at hres
  have HRES := Lib.hid hres
  have HKD := Lib.hid hk
  have HST := Lib.hid hset
  have HO := Lib.hid (one_dcells15 r)
  clear hd hB hi hv hbd hhas hgx hrd hr hra hset hres
  go_enter Tryz.func58, Tryz.ntmps58
  go_upto_region 1 with fail
  generalize hW0 : w.alloc (.cells #[.int .i64 2, .int .i64 m, .string s, .slice nm.a nm.n nm.cap, .slice a n cap] 26) = W0 at *
  have HSZ := Lib.hid (show W0.heap.size = w.heap.size + 1 from by rw [← hW0, World.size_alloc])
  clear hW0
  go_upto_region 2 with (first | (refine wpList_load_mid rfl 46 (.tmp 15) rfl gx ox rfl r.cells _ HRA.out Tryz.underlying46 rfl (by rw [info_D12, HO.out.1]) ?_) | (refine wpList_store_new rfl 46 (.tmp 9) (.tmp 16) rfl 12 _ r.cells HO.out.1 (by rfl) info_D12 HO.out.2 rfl rfl ?_))
  (try dsimp only [Act.put])
  have HX9 := Lib.hid (Bx.new W0 r.cells.toArray 46)
  have HX1 := Lib.hid (HX.out.alloc (.cells r.cells.toArray 46))
  have HB1 := Lib.hid (HB.out.alloc HB.out.size (.cells r.cells.toArray 46))
  generalize W0.alloc (.cells r.cells.toArray 46) = W1 at *
  obtain ⟨g, hg⟩ : ∃ g, W0.heap.size = g := ⟨_, rfl⟩
  rw [hg] at HX9 HSZ ⊢
  clear hg HX HRA
  obtain ⟨c0, c1, c2, c3, c4⟩ := fiveX HX1.out
  have d0 := HX9.out.cell 0 (v := .int .i64 r.kind) rfl
  rw [hk] at d0
  have d1 := HX9.out.cell 1 (v := .bool r.ext) rfl
  have d2 := HX9.out.cell 2 (v := .slice r.set.a r.set.n r.set.cap) rfl
  have d5 := HX9.out.cell 5 (v := .string r.fr) rfl
  have d6 := HX9.out.cell 6 (v := .slice r.nm.a r.nm.n r.nm.cap) rfl
  have d7 := HX9.out.cell 7 (v := .slice r.mo.a r.mo.n r.mo.cap) rfl
  have HPT := Lib.hid (show ∀ W : World, Calls Tryz.prog 93 #[.int .i64 2] W fun e w' => e = .returned (.bool false) ∧ w' = W from fun W => rparted_ok W 2)
  clear hk
  go_cut [30] from 17 to 30 (fun v wr => v = .bool false ∧ W1 = wr)
  case first =>
    by_cases hrm : room = 0
    · have q1 : ((room : Int) == 0) = true := by simp [hrm]
      clear hrm
      go_wp2_with fail
      refine (HPT.out _).mono ?_
      rintro e w2 ⟨rfl, rfl⟩
      go_wp2_with fail
      go_meet
      exact ⟨rfl, rfl⟩
    · have q1 : ((room : Int) == 0) = false := beq_eq_false_iff_ne.2 (by omega)
      clear hrm
      go_wp2_with fail
      go_meet
      exact ⟨rfl, rfl⟩
  obtain ⟨rfl, rfl⟩ := hcut
  by_cases hn : nm.n = 0
  case neg =>
    have n2 : decide ((0 : Int) < (nm.n : Int)) = true := decide_eq_true (by omega)
    have n3 : decide (0 < nm.n) = true := decide_eq_true (by omega)
    have HZ := Lib.hid (show res = false from by rw [← HRES.out, decide_eq_false (by omega)]; rfl)
    clear hn
    go_wp2_with fail
    go_ret
    exact ⟨by rw [HZ.out]; rfl, HB1.out⟩
  case pos =>
  have n2 : decide ((0 : Int) < (nm.n : Int)) = false := decide_eq_false (by omega)
  have n3 : decide (0 < nm.n) = false := decide_eq_false (by omega)
  have HNN := Lib.hid hn
  clear hn
  by_cases hl : n = 0
  case neg =>
    have l2 : decide ((0 : Int) < (n : Int)) = true := decide_eq_true (by omega)
    have l3 : decide (0 < n) = true := decide_eq_true (by omega)
    have HZ := Lib.hid (show res = false from by rw [← HRES.out, decide_eq_false (by omega)]; rfl)
    clear hl
    by_cases hm : m = 0
    · have m1 : (m != 0) = false := by rw [hm]; rfl
      have m2 : (m == 0) = true := by rw [hm]; rfl
      clear hm
      go_wp2_with fail
      go_ret
      exact ⟨by rw [HZ.out]; rfl, HB1.out⟩
    · have m1 : (m != 0) = true := bne_iff_ne.2 hm
      have m2 : (m == 0) = false := beq_eq_false_iff_ne.2 hm
      clear hm
      go_wp2_with fail
      go_ret
      exact ⟨by rw [HZ.out]; rfl, HB1.out⟩
  case pos =>
  have l2 : decide ((0 : Int) < (n : Int)) = false := decide_eq_false (by omega)
  have l3 : decide (0 < n) = false := decide_eq_false (by omega)
  have HLL := Lib.hid hl
  clear hl
  go_upto_region 6 with fail
  go_cut [73] from 39 to 73 (fun v wx => v = .bool false ∧ W1 = wx)
  case first =>
    by_cases hm : m = 0
    · have m1 : (m != 0) = false := by rw [hm]; rfl
      have m2 : (m == 0) = true := by rw [hm]; rfl
      clear hm
      go_wp2_with fail
      go_meet
      exact ⟨rfl, rfl⟩
    · have m1 : (m != 0) = true := bne_iff_ne.2 hm
      have m2 : (m == 0) = false := beq_eq_false_iff_ne.2 hm
      clear hm
      go_wp2_with fail
      go_meet
      exact ⟨rfl, rfl⟩
  obtain ⟨rfl, rfl⟩ := hcut
  clear n2 n3 l2 l3
  have hes := empty_str s
  by_cases hs : s.size = 0
  case neg =>
    have s1 : s.toList.isEmpty = false := by rw [hes, decide_eq_false hs]
    have s2 : (!s.toList.isEmpty) = true := by rw [s1]; rfl
    have HZ := Lib.hid (show res = false from by rw [← HRES.out, decide_eq_false (by omega)]; rfl)
    clear hs hes
    go_wp2_with fail
    go_ret
    exact ⟨by rw [HZ.out]; rfl, HB1.out⟩
  case pos =>
  have s1 : s.toList.isEmpty = true := by rw [hes, decide_eq_true hs]
  have s2 : (!s.toList.isEmpty) = false := by rw [s1]; rfl
  have HRE := Lib.hid (show res = (r.admits m) from by rw [← HRES.out, decide_eq_true (by have h1 := HNN.out; have h3 := HLL.out; omega)]; rfl)
  clear hs hes
  have HHS := Lib.hid (show ∀ W, Below w.heap.size w W → Calls Tryz.prog 95 #[.slice r.set.a r.set.n r.set.cap, .int .i64 m] W fun e w' => e = .returned (.bool (hasB r.set.l m)) ∧ w' = W from fun W hW =>
    rHas_ok W r.set.v r.set.l m ((HDI.out.2.1.below hW (Nat.le_refl _)).rsl) (by rw [RS.len]; have := HST.out; omega))
  have HAD := Lib.hid (show res = (r.ext || hasB r.set.l m) from HRE.out)
  generalize r.ext = ex at *
  generalize hasB r.set.l m = hb at *
  cases ex with
  | true =>
    have HZ := Lib.hid (show res = true from HAD.out)
    go_wp2_with fail
    go_ret
    exact ⟨by rw [HZ.out]; rfl, HB1.out⟩
  | false =>
    have HZ := Lib.hid (show res = hb from HAD.out)
    go_wp2_with fail
    refine (HHS.out _ HB1.out).mono ?_
    rintro e w2 ⟨rfl, rfl⟩
    go_wp2_with fail
    go_ret
    exact ⟨by rw [HZ.out]; rfl, HB1.out⟩
set_option maxHeartbeats 32000000 in
theorem rof_3 (B : Nat) (w : World) (d : TB) (i room : Nat) (m : Int) (s : ByteArray) (nm : SL) (a : Option Addr) (n cap : Nat) (ch : Nat → VT) (hd : TBIn B w d) (hB : B ≤ w.heap.size) (hi : i < d.n) (hv : VIn B w (.mk 3 m s nm a n cap ch)) (hk : (d.f i).kind = 3) (hset : (d.f i).set.n ≤ 1000) :
    Calls Tryz.prog 58 #[.slice d.a d.n d.cap, .int .i64 (i : Nat), .agg (VT.mk 3 m s nm a n cap ch).cells.toArray, .int .i64 (room : Nat)] w fun e w' => e = .returned (.bool ((VT.mk 3 m s nm a n cap ch).has d i)) ∧ Below w.heap.size w w' := by
  have hbd : bare 3 m s.size nm.n n = decide (nm.n = 0 ∧ m = 0 ∧ n = 0) := by
    generalize s.size = sz
    unfold bare
    rw [Bool.eq_iff_iff, decide_eq_true_iff]
    simp
    try omega
  have hhas : (VT.mk 3 m s nm a n cap ch).has d i = (decide (nm.n = 0 ∧ m = 0 ∧ n = 0) && (inL (d.f i).nm s || inL (d.f i).mo s)) := by
    simp only [VT.has]
    rw [hk, hbd]
    simp
  obtain ⟨res, hres⟩ : ∃ x, (decide (nm.n = 0 ∧ m = 0 ∧ n = 0) && (inL (d.f i).nm s || inL (d.f i).mo s)) = x := ⟨_, rfl⟩
  rw [hhas, hres, list5]
  have HDI := Lib.hid ((hd.2 i hi).below (Below.refl w.heap.size w) hB)
  have HIN := Lib.hid (show s.size ≤ 140737488355328 from hv.1.2.2.1)
  obtain ⟨gx, ox, hix, hgx, hrd⟩ := hd.1.read 22 46 Tryz.underlying22 (by kernel_rfl) Tryz.sizeOf46 hi
  obtain ⟨r, hr⟩ : ∃ r, d.f i = r := ⟨_, rfl⟩
  have HX := Lib.hid (Bx.new w #[.int .i64 3, .int .i64 m, .string s, .slice nm.a nm.n nm.cap, .slice a n cap] 26)
  have HB := Lib.hid ((Below.refl w.heap.size w).alloc (Nat.le_refl _) (.cells #[.int .i64 3, .int .i64 m, .string s, .slice nm.a nm.n nm.cap, .slice a n cap] 26))
  have hra : (w.alloc (.cells #[.int .i64 3, .int .i64 m, .string s, .slice nm.a nm.n nm.cap, .slice a n cap] 26)).rangeAt gx ox r.cells := fun j u hj => hrd _ (HB.out.block gx (by omega)) j u (by rw [hr]; exact hj)
  have HRA := Lib.hid hra
  rw [hr] at HDI hk hset
  try rw [hr] at hres
  have HRES := Lib.hid hres
  have HKD := Lib.hid hk
  have HST := Lib.hid hset
  have HO := Lib.hid (one_dcells15 r)
  clear hd hB hi hv hbd hhas hgx hrd hr hra hset hres
  go_enter Tryz.func58, Tryz.ntmps58
  go_upto_region 1 with fail
  generalize hW0 : w.alloc (.cells #[.int .i64 3, .int .i64 m, .string s, .slice nm.a nm.n nm.cap, .slice a n cap] 26) = W0 at *
  have HSZ := Lib.hid (show W0.heap.size = w.heap.size + 1 from by rw [← hW0, World.size_alloc])
  clear hW0
  go_upto_region 2 with (first | (refine wpList_load_mid rfl 46 (.tmp 15) rfl gx ox rfl r.cells _ HRA.out Tryz.underlying46 rfl (by rw [info_D12, HO.out.1]) ?_) | (refine wpList_store_new rfl 46 (.tmp 9) (.tmp 16) rfl 12 _ r.cells HO.out.1 (by rfl) info_D12 HO.out.2 rfl rfl ?_))
  (try dsimp only [Act.put])
  have HX9 := Lib.hid (Bx.new W0 r.cells.toArray 46)
  have HX1 := Lib.hid (HX.out.alloc (.cells r.cells.toArray 46))
  have HB1 := Lib.hid (HB.out.alloc HB.out.size (.cells r.cells.toArray 46))
  generalize W0.alloc (.cells r.cells.toArray 46) = W1 at *
  obtain ⟨g, hg⟩ : ∃ g, W0.heap.size = g := ⟨_, rfl⟩
  rw [hg] at HX9 HSZ ⊢
  clear hg HX HRA
  obtain ⟨c0, c1, c2, c3, c4⟩ := fiveX HX1.out
  have d0 := HX9.out.cell 0 (v := .int .i64 r.kind) rfl
  rw [hk] at d0
  have d1 := HX9.out.cell 1 (v := .bool r.ext) rfl
  have d2 := HX9.out.cell 2 (v := .slice r.set.a r.set.n r.set.cap) rfl
  have d5 := HX9.out.cell 5 (v := .string r.fr) rfl
  have d6 := HX9.out.cell 6 (v := .slice r.nm.a r.nm.n r.nm.cap) rfl
  have d7 := HX9.out.cell 7 (v := .slice r.mo.a r.mo.n r.mo.cap) rfl
  have HPT := Lib.hid (show ∀ W : World, Calls Tryz.prog 93 #[.int .i64 3] W fun e w' => e = .returned (.bool false) ∧ w' = W from fun W => rparted_ok W 3)
  clear hk
  go_cut [30] from 17 to 30 (fun v wr => v = .bool false ∧ W1 = wr)
  case first =>
    by_cases hrm : room = 0
    · have q1 : ((room : Int) == 0) = true := by simp [hrm]
      clear hrm
      go_wp2_with fail
      refine (HPT.out _).mono ?_
      rintro e w2 ⟨rfl, rfl⟩
      go_wp2_with fail
      go_meet
      exact ⟨rfl, rfl⟩
    · have q1 : ((room : Int) == 0) = false := beq_eq_false_iff_ne.2 (by omega)
      clear hrm
      go_wp2_with fail
      go_meet
      exact ⟨rfl, rfl⟩
  obtain ⟨rfl, rfl⟩ := hcut
  by_cases hn : nm.n = 0
  case neg =>
    have n2 : decide ((0 : Int) < (nm.n : Int)) = true := decide_eq_true (by omega)
    have n3 : decide (0 < nm.n) = true := decide_eq_true (by omega)
    have HZ := Lib.hid (show res = false from by rw [← HRES.out, decide_eq_false (by omega)]; rfl)
    clear hn
    go_wp2_with fail
    go_ret
    exact ⟨by rw [HZ.out]; rfl, HB1.out⟩
  case pos =>
  have n2 : decide ((0 : Int) < (nm.n : Int)) = false := decide_eq_false (by omega)
  have n3 : decide (0 < nm.n) = false := decide_eq_false (by omega)
  have HNN := Lib.hid hn
  clear hn
  by_cases hm : m = 0
  case neg =>
    have m1 : (m != 0) = true := bne_iff_ne.2 hm
    have m2 : (m == 0) = false := beq_eq_false_iff_ne.2 hm
    have HZ := Lib.hid (show res = false from by rw [← HRES.out, decide_eq_false (by omega)]; rfl)
    clear hm
    go_wp2_with fail
    go_ret
    exact ⟨by rw [HZ.out]; rfl, HB1.out⟩
  case pos =>
  have m1 : (m != 0) = false := by rw [hm]; rfl
  have m2 : (m == 0) = true := by rw [hm]; rfl
  have HMM := Lib.hid hm
  clear hm
  by_cases hl : n = 0
  case neg =>
    have l2 : decide ((0 : Int) < (n : Int)) = true := decide_eq_true (by omega)
    have l3 : decide (0 < n) = true := decide_eq_true (by omega)
    have HZ := Lib.hid (show res = false from by rw [← HRES.out, decide_eq_false (by omega)]; rfl)
    clear hl
    go_wp2_with fail
    go_ret
    exact ⟨by rw [HZ.out]; rfl, HB1.out⟩
  case pos =>
  have l2 : decide ((0 : Int) < (n : Int)) = false := decide_eq_false (by omega)
  have l3 : decide (0 < n) = false := decide_eq_false (by omega)
  have HLL := Lib.hid hl
  clear hl
  go_upto_region 6 with fail
  go_cut [73] from 39 to 73 (fun v wx => v = .bool false ∧ W1 = wx)
  case first =>
    go_wp2_with fail
    go_meet
    exact ⟨rfl, rfl⟩
  obtain ⟨rfl, rfl⟩ := hcut
  clear n2 n3 l2 l3 m1 m2
  have hes := empty_str s
  go_upto_region 8 with fail
  go_cut [96] from 74 to 96 (fun v wx => v = .bool false ∧ W1 = wx)
  case first =>
    by_cases hs : s.size = 0
    · have s1 : s.toList.isEmpty = true := by rw [hes, decide_eq_true hs]
      have s2 : (!s.toList.isEmpty) = false := by rw [s1]; rfl
      clear hs hes
      go_wp2_with fail
      go_meet
      exact ⟨rfl, rfl⟩
    · have s1 : s.toList.isEmpty = false := by rw [hes, decide_eq_false hs]
      have s2 : (!s.toList.isEmpty) = true := by rw [s1]; rfl
      clear hs hes
      go_wp2_with fail
      go_meet
      exact ⟨rfl, rfl⟩
  obtain ⟨rfl, rfl⟩ := hcut
  clear hes
  have HRE := Lib.hid (show res = (inL r.nm s || inL r.mo s) from by rw [← HRES.out, decide_eq_true (by have h1 := HNN.out; have h3 := HLL.out; have h2 := HMM.out; omega)]; rfl)
  have HN1 := Lib.hid (show ∀ W, Below w.heap.size w W → Calls Tryz.prog 59 #[.slice r.nm.a r.nm.n r.nm.cap, .string s] W fun e w' => e = .returned (.int .i64 (rIdx r.nm s)) ∧ W = w' from fun W hW => rhas_ok w.heap.size W r.nm s (HDI.out.2.2.1.below hW (Nat.le_refl _)))
  have HN2 := Lib.hid (show ∀ W, Below w.heap.size w W → Calls Tryz.prog 59 #[.slice r.mo.a r.mo.n r.mo.cap, .string s] W fun e w' => e = .returned (.int .i64 (rIdx r.mo s)) ∧ W = w' from fun W hW => rhas_ok w.heap.size W r.mo s (HDI.out.2.2.2.1.below hW (Nat.le_refl _)))
  have hg1 := rIdx_ge r.nm s
  have hg2 := rIdx_ge r.mo s
  generalize rIdx r.nm s = p1 at *
  generalize rIdx r.mo s = p2 at *
  generalize inL r.nm s = b1 at *
  generalize inL r.mo s = b2 at *
  cases b1 with
  | true =>
    have HZ := Lib.hid (show res = true from by rw [HRE.out]; rfl)
    go_wp2_with fail
    refine (HN1.out _ HB1.out).mono ?_
    rintro e w2 ⟨rfl, rfl⟩
    go_wp2_with fail
    go_ret
    exact ⟨by rw [HZ.out]; rfl, HB1.out⟩
  | false =>
    have HZ := Lib.hid (show res = b2 from by rw [HRE.out]; rfl)
    go_wp2_with fail
    refine (HN1.out _ HB1.out).mono ?_
    rintro e w2 ⟨rfl, rfl⟩
    go_wp2_with fail
    refine (HN2.out _ HB1.out).mono ?_
    rintro e w2 ⟨rfl, rfl⟩
    cases b2 with
    | true =>
      go_wp2_with fail
      go_ret
      exact ⟨by rw [HZ.out]; rfl, HB1.out⟩
    | false =>
      go_wp2_with fail
      go_ret
      exact ⟨by rw [HZ.out]; rfl, HB1.out⟩
set_option maxHeartbeats 32000000 in
theorem rof_4 (B : Nat) (w : World) (d : TB) (i room : Nat) (m : Int) (s : ByteArray) (nm : SL) (a : Option Addr) (n cap : Nat) (ch : Nat → VT) (hd : TBIn B w d) (hB : B ≤ w.heap.size) (hi : i < d.n) (hv : VIn B w (.mk 4 m s nm a n cap ch)) (hk : (d.f i).kind = 4) (hset : (d.f i).set.n ≤ 1000) :
    Calls Tryz.prog 58 #[.slice d.a d.n d.cap, .int .i64 (i : Nat), .agg (VT.mk 4 m s nm a n cap ch).cells.toArray, .int .i64 (room : Nat)] w fun e w' => e = .returned (.bool ((VT.mk 4 m s nm a n cap ch).has d i)) ∧ Below w.heap.size w w' := by
  have hbd : bare 4 m s.size nm.n n = decide (nm.n = 0 ∧ m = 0 ∧ n = 0 ∧ s.size = 0) := by
    generalize s.size = sz
    unfold bare
    rw [Bool.eq_iff_iff, decide_eq_true_iff]
    simp
    try omega
  have hhas : (VT.mk 4 m s nm a n cap ch).has d i = (decide (nm.n = 0 ∧ m = 0 ∧ n = 0 ∧ s.size = 0) && (true)) := by
    simp only [VT.has]
    rw [hk, hbd]
    simp
  obtain ⟨res, hres⟩ : ∃ x, (decide (nm.n = 0 ∧ m = 0 ∧ n = 0 ∧ s.size = 0) && (true)) = x := ⟨_, rfl⟩
  rw [hhas, hres, list5]
  have HDI := Lib.hid ((hd.2 i hi).below (Below.refl w.heap.size w) hB)
  have HIN := Lib.hid (show s.size ≤ 140737488355328 from hv.1.2.2.1)
  obtain ⟨gx, ox, hix, hgx, hrd⟩ := hd.1.read 22 46 Tryz.underlying22 (by kernel_rfl) Tryz.sizeOf46 hi
  obtain ⟨r, hr⟩ : ∃ r, d.f i = r := ⟨_, rfl⟩
  have HX := Lib.hid (Bx.new w #[.int .i64 4, .int .i64 m, .string s, .slice nm.a nm.n nm.cap, .slice a n cap] 26)
  have HB := Lib.hid ((Below.refl w.heap.size w).alloc (Nat.le_refl _) (.cells #[.int .i64 4, .int .i64 m, .string s, .slice nm.a nm.n nm.cap, .slice a n cap] 26))
  have hra : (w.alloc (.cells #[.int .i64 4, .int .i64 m, .string s, .slice nm.a nm.n nm.cap, .slice a n cap] 26)).rangeAt gx ox r.cells := fun j u hj => hrd _ (HB.out.block gx (by omega)) j u (by rw [hr]; exact hj)
  have HRA := Lib.hid hra
  rw [hr] at HDI hk hset
  try rw [hr] at hres
  have HRES := Lib.hid hres
  have HKD := Lib.hid hk
  have HST := Lib.hid hset
  have HO := Lib.hid (one_dcells15 r)
  clear hd hB hi hv hbd hhas hgx hrd hr hra hset hres
  go_enter Tryz.func58, Tryz.ntmps58
  go_upto_region 1 with fail
  generalize hW0 : w.alloc (.cells #[.int .i64 4, .int .i64 m, .string s, .slice nm.a nm.n nm.cap, .slice a n cap] 26) = W0 at *
  have HSZ := Lib.hid (show W0.heap.size = w.heap.size + 1 from by rw [← hW0, World.size_alloc])
  clear hW0
  go_upto_region 2 with (first | (refine wpList_load_mid rfl 46 (.tmp 15) rfl gx ox rfl r.cells _ HRA.out Tryz.underlying46 rfl (by rw [info_D12, HO.out.1]) ?_) | (refine wpList_store_new rfl 46 (.tmp 9) (.tmp 16) rfl 12 _ r.cells HO.out.1 (by rfl) info_D12 HO.out.2 rfl rfl ?_))
  (try dsimp only [Act.put])
  have HX9 := Lib.hid (Bx.new W0 r.cells.toArray 46)
  have HX1 := Lib.hid (HX.out.alloc (.cells r.cells.toArray 46))
  have HB1 := Lib.hid (HB.out.alloc HB.out.size (.cells r.cells.toArray 46))
  generalize W0.alloc (.cells r.cells.toArray 46) = W1 at *
  obtain ⟨g, hg⟩ : ∃ g, W0.heap.size = g := ⟨_, rfl⟩
  rw [hg] at HX9 HSZ ⊢
  clear hg HX HRA
  obtain ⟨c0, c1, c2, c3, c4⟩ := fiveX HX1.out
  have d0 := HX9.out.cell 0 (v := .int .i64 r.kind) rfl
  rw [hk] at d0
  have d1 := HX9.out.cell 1 (v := .bool r.ext) rfl
  have d2 := HX9.out.cell 2 (v := .slice r.set.a r.set.n r.set.cap) rfl
  have d5 := HX9.out.cell 5 (v := .string r.fr) rfl
  have d6 := HX9.out.cell 6 (v := .slice r.nm.a r.nm.n r.nm.cap) rfl
  have d7 := HX9.out.cell 7 (v := .slice r.mo.a r.mo.n r.mo.cap) rfl
  have HPT := Lib.hid (show ∀ W : World, Calls Tryz.prog 93 #[.int .i64 4] W fun e w' => e = .returned (.bool false) ∧ w' = W from fun W => rparted_ok W 4)
  clear hk
  go_cut [30] from 17 to 30 (fun v wr => v = .bool false ∧ W1 = wr)
  case first =>
    by_cases hrm : room = 0
    · have q1 : ((room : Int) == 0) = true := by simp [hrm]
      clear hrm
      go_wp2_with fail
      refine (HPT.out _).mono ?_
      rintro e w2 ⟨rfl, rfl⟩
      go_wp2_with fail
      go_meet
      exact ⟨rfl, rfl⟩
    · have q1 : ((room : Int) == 0) = false := beq_eq_false_iff_ne.2 (by omega)
      clear hrm
      go_wp2_with fail
      go_meet
      exact ⟨rfl, rfl⟩
  obtain ⟨rfl, rfl⟩ := hcut
  by_cases hn : nm.n = 0
  case neg =>
    have n2 : decide ((0 : Int) < (nm.n : Int)) = true := decide_eq_true (by omega)
    have n3 : decide (0 < nm.n) = true := decide_eq_true (by omega)
    have HZ := Lib.hid (show res = false from by rw [← HRES.out, decide_eq_false (by omega)]; rfl)
    clear hn
    go_wp2_with fail
    go_ret
    exact ⟨by rw [HZ.out]; rfl, HB1.out⟩
  case pos =>
  have n2 : decide ((0 : Int) < (nm.n : Int)) = false := decide_eq_false (by omega)
  have n3 : decide (0 < nm.n) = false := decide_eq_false (by omega)
  have HNN := Lib.hid hn
  clear hn
  by_cases hm : m = 0
  case neg =>
    have m1 : (m != 0) = true := bne_iff_ne.2 hm
    have m2 : (m == 0) = false := beq_eq_false_iff_ne.2 hm
    have HZ := Lib.hid (show res = false from by rw [← HRES.out, decide_eq_false (by omega)]; rfl)
    clear hm
    go_wp2_with fail
    go_ret
    exact ⟨by rw [HZ.out]; rfl, HB1.out⟩
  case pos =>
  have m1 : (m != 0) = false := by rw [hm]; rfl
  have m2 : (m == 0) = true := by rw [hm]; rfl
  have HMM := Lib.hid hm
  clear hm
  by_cases hl : n = 0
  case neg =>
    have l2 : decide ((0 : Int) < (n : Int)) = true := decide_eq_true (by omega)
    have l3 : decide (0 < n) = true := decide_eq_true (by omega)
    have HZ := Lib.hid (show res = false from by rw [← HRES.out, decide_eq_false (by omega)]; rfl)
    clear hl
    go_wp2_with fail
    go_ret
    exact ⟨by rw [HZ.out]; rfl, HB1.out⟩
  case pos =>
  have l2 : decide ((0 : Int) < (n : Int)) = false := decide_eq_false (by omega)
  have l3 : decide (0 < n) = false := decide_eq_false (by omega)
  have HLL := Lib.hid hl
  clear hl
  go_upto_region 6 with fail
  go_cut [73] from 39 to 73 (fun v wx => v = .bool false ∧ W1 = wx)
  case first =>
    go_wp2_with fail
    go_meet
    exact ⟨rfl, rfl⟩
  obtain ⟨rfl, rfl⟩ := hcut
  clear n2 n3 l2 l3 m1 m2
  have hes := empty_str s
  by_cases hs : s.size = 0
  case neg =>
    have s1 : s.toList.isEmpty = false := by rw [hes, decide_eq_false hs]
    have s2 : (!s.toList.isEmpty) = true := by rw [s1]; rfl
    have HZ := Lib.hid (show res = false from by rw [← HRES.out, decide_eq_false (by omega)]; rfl)
    clear hs hes
    go_wp2_with fail
    go_ret
    exact ⟨by rw [HZ.out]; rfl, HB1.out⟩
  case pos =>
  have s1 : s.toList.isEmpty = true := by rw [hes, decide_eq_true hs]
  have s2 : (!s.toList.isEmpty) = false := by rw [s1]; rfl
  have HRE := Lib.hid (show res = (true) from by rw [← HRES.out, decide_eq_true (by have h1 := HNN.out; have h3 := HLL.out; have h2 := HMM.out; omega)]; rfl)
  clear hs hes
  have HZ := Lib.hid (show res = true from HRE.out)
  go_wp2_with fail
  go_ret
  exact ⟨by rw [HZ.out]; rfl, HB1.out⟩
set_option maxHeartbeats 32000000 in
theorem rof_5 (B : Nat) (w : World) (d : TB) (i room : Nat) (m : Int) (s : ByteArray) (nm : SL) (a : Option Addr) (n cap : Nat) (ch : Nat → VT) (hd : TBIn B w d) (hB : B ≤ w.heap.size) (hi : i < d.n) (hv : VIn B w (.mk 5 m s nm a n cap ch)) (hk : (d.f i).kind = 5) (hset : (d.f i).set.n ≤ 1000) :
    Calls Tryz.prog 58 #[.slice d.a d.n d.cap, .int .i64 (i : Nat), .agg (VT.mk 5 m s nm a n cap ch).cells.toArray, .int .i64 (room : Nat)] w fun e w' => e = .returned (.bool ((VT.mk 5 m s nm a n cap ch).has d i)) ∧ Below w.heap.size w w' := by
  have hbd : bare 5 m s.size nm.n n = decide (nm.n = 0 ∧ m = 0 ∧ n = 0) := by
    generalize s.size = sz
    unfold bare
    rw [Bool.eq_iff_iff, decide_eq_true_iff]
    simp
    try omega
  have hhas : (VT.mk 5 m s nm a n cap ch).has d i = (decide (nm.n = 0 ∧ m = 0 ∧ n = 0) && ((d.f i).isSize s.size && (d.f i).chars s)) := by
    simp only [VT.has]
    rw [hk, hbd]
    simp
  obtain ⟨res, hres⟩ : ∃ x, (decide (nm.n = 0 ∧ m = 0 ∧ n = 0) && ((d.f i).isSize s.size && (d.f i).chars s)) = x := ⟨_, rfl⟩
  rw [hhas, hres, list5]
  have HDI := Lib.hid ((hd.2 i hi).below (Below.refl w.heap.size w) hB)
  have HIN := Lib.hid (show s.size ≤ 140737488355328 from hv.1.2.2.1)
  obtain ⟨gx, ox, hix, hgx, hrd⟩ := hd.1.read 22 46 Tryz.underlying22 (by kernel_rfl) Tryz.sizeOf46 hi
  obtain ⟨r, hr⟩ : ∃ r, d.f i = r := ⟨_, rfl⟩
  have HX := Lib.hid (Bx.new w #[.int .i64 5, .int .i64 m, .string s, .slice nm.a nm.n nm.cap, .slice a n cap] 26)
  have HB := Lib.hid ((Below.refl w.heap.size w).alloc (Nat.le_refl _) (.cells #[.int .i64 5, .int .i64 m, .string s, .slice nm.a nm.n nm.cap, .slice a n cap] 26))
  have hra : (w.alloc (.cells #[.int .i64 5, .int .i64 m, .string s, .slice nm.a nm.n nm.cap, .slice a n cap] 26)).rangeAt gx ox r.cells := fun j u hj => hrd _ (HB.out.block gx (by omega)) j u (by rw [hr]; exact hj)
  have HRA := Lib.hid hra
  rw [hr] at HDI hk hset
  try rw [hr] at hres
  have HRES := Lib.hid hres
  have HKD := Lib.hid hk
  have HST := Lib.hid hset
  have HO := Lib.hid (one_dcells15 r)
  clear hd hB hi hv hbd hhas hgx hrd hr hra hset hres
  go_enter Tryz.func58, Tryz.ntmps58
  go_upto_region 1 with fail
  generalize hW0 : w.alloc (.cells #[.int .i64 5, .int .i64 m, .string s, .slice nm.a nm.n nm.cap, .slice a n cap] 26) = W0 at *
  have HSZ := Lib.hid (show W0.heap.size = w.heap.size + 1 from by rw [← hW0, World.size_alloc])
  clear hW0
  go_upto_region 2 with (first | (refine wpList_load_mid rfl 46 (.tmp 15) rfl gx ox rfl r.cells _ HRA.out Tryz.underlying46 rfl (by rw [info_D12, HO.out.1]) ?_) | (refine wpList_store_new rfl 46 (.tmp 9) (.tmp 16) rfl 12 _ r.cells HO.out.1 (by rfl) info_D12 HO.out.2 rfl rfl ?_))
  (try dsimp only [Act.put])
  have HX9 := Lib.hid (Bx.new W0 r.cells.toArray 46)
  have HX1 := Lib.hid (HX.out.alloc (.cells r.cells.toArray 46))
  have HB1 := Lib.hid (HB.out.alloc HB.out.size (.cells r.cells.toArray 46))
  generalize W0.alloc (.cells r.cells.toArray 46) = W1 at *
  obtain ⟨g, hg⟩ : ∃ g, W0.heap.size = g := ⟨_, rfl⟩
  rw [hg] at HX9 HSZ ⊢
  clear hg HX HRA
  obtain ⟨c0, c1, c2, c3, c4⟩ := fiveX HX1.out
  have d0 := HX9.out.cell 0 (v := .int .i64 r.kind) rfl
  rw [hk] at d0
  have d1 := HX9.out.cell 1 (v := .bool r.ext) rfl
  have d2 := HX9.out.cell 2 (v := .slice r.set.a r.set.n r.set.cap) rfl
  have d5 := HX9.out.cell 5 (v := .string r.fr) rfl
  have d6 := HX9.out.cell 6 (v := .slice r.nm.a r.nm.n r.nm.cap) rfl
  have d7 := HX9.out.cell 7 (v := .slice r.mo.a r.mo.n r.mo.cap) rfl
  have HPT := Lib.hid (show ∀ W : World, Calls Tryz.prog 93 #[.int .i64 5] W fun e w' => e = .returned (.bool false) ∧ w' = W from fun W => rparted_ok W 5)
  clear hk
  go_cut [30] from 17 to 30 (fun v wr => v = .bool false ∧ W1 = wr)
  case first =>
    by_cases hrm : room = 0
    · have q1 : ((room : Int) == 0) = true := by simp [hrm]
      clear hrm
      go_wp2_with fail
      refine (HPT.out _).mono ?_
      rintro e w2 ⟨rfl, rfl⟩
      go_wp2_with fail
      go_meet
      exact ⟨rfl, rfl⟩
    · have q1 : ((room : Int) == 0) = false := beq_eq_false_iff_ne.2 (by omega)
      clear hrm
      go_wp2_with fail
      go_meet
      exact ⟨rfl, rfl⟩
  obtain ⟨rfl, rfl⟩ := hcut
  by_cases hn : nm.n = 0
  case neg =>
    have n2 : decide ((0 : Int) < (nm.n : Int)) = true := decide_eq_true (by omega)
    have n3 : decide (0 < nm.n) = true := decide_eq_true (by omega)
    have HZ := Lib.hid (show res = false from by rw [← HRES.out, decide_eq_false (by omega)]; rfl)
    clear hn
    go_wp2_with fail
    go_ret
    exact ⟨by rw [HZ.out]; rfl, HB1.out⟩
  case pos =>
  have n2 : decide ((0 : Int) < (nm.n : Int)) = false := decide_eq_false (by omega)
  have n3 : decide (0 < nm.n) = false := decide_eq_false (by omega)
  have HNN := Lib.hid hn
  clear hn
  by_cases hm : m = 0
  case neg =>
    have m1 : (m != 0) = true := bne_iff_ne.2 hm
    have m2 : (m == 0) = false := beq_eq_false_iff_ne.2 hm
    have HZ := Lib.hid (show res = false from by rw [← HRES.out, decide_eq_false (by omega)]; rfl)
    clear hm
    go_wp2_with fail
    go_ret
    exact ⟨by rw [HZ.out]; rfl, HB1.out⟩
  case pos =>
  have m1 : (m != 0) = false := by rw [hm]; rfl
  have m2 : (m == 0) = true := by rw [hm]; rfl
  have HMM := Lib.hid hm
  clear hm
  by_cases hl : n = 0
  case neg =>
    have l2 : decide ((0 : Int) < (n : Int)) = true := decide_eq_true (by omega)
    have l3 : decide (0 < n) = true := decide_eq_true (by omega)
    have HZ := Lib.hid (show res = false from by rw [← HRES.out, decide_eq_false (by omega)]; rfl)
    clear hl
    go_wp2_with fail
    go_ret
    exact ⟨by rw [HZ.out]; rfl, HB1.out⟩
  case pos =>
  have l2 : decide ((0 : Int) < (n : Int)) = false := decide_eq_false (by omega)
  have l3 : decide (0 < n) = false := decide_eq_false (by omega)
  have HLL := Lib.hid hl
  clear hl
  go_upto_region 6 with fail
  go_cut [73] from 39 to 73 (fun v wx => v = .bool false ∧ W1 = wx)
  case first =>
    go_wp2_with fail
    go_meet
    exact ⟨rfl, rfl⟩
  obtain ⟨rfl, rfl⟩ := hcut
  clear n2 n3 l2 l3 m1 m2
  have hes := empty_str s
  go_upto_region 8 with fail
  go_cut [96] from 74 to 96 (fun v wx => v = .bool false ∧ W1 = wx)
  case first =>
    by_cases hs : s.size = 0
    · have s1 : s.toList.isEmpty = true := by rw [hes, decide_eq_true hs]
      have s2 : (!s.toList.isEmpty) = false := by rw [s1]; rfl
      clear hs hes
      go_wp2_with fail
      go_meet
      exact ⟨rfl, rfl⟩
    · have s1 : s.toList.isEmpty = false := by rw [hes, decide_eq_false hs]
      have s2 : (!s.toList.isEmpty) = true := by rw [s1]; rfl
      clear hs hes
      go_wp2_with fail
      go_meet
      exact ⟨rfl, rfl⟩
  obtain ⟨rfl, rfl⟩ := hcut
  clear hes
  have HRE := Lib.hid (show res = (r.isSize s.size && r.chars s) from by rw [← HRES.out, decide_eq_true (by have h1 := HNN.out; have h3 := HLL.out; have h2 := HMM.out; omega)]; rfl)
  have HSIZ := Lib.hid (show ∀ W, Below w.heap.size w W → Calls Tryz.prog 97 #[.agg r.cells.toArray, .int .i64 (s.size : Nat)] W fun e w' => e = .returned (.bool (r.isSize s.size)) ∧ Below W.heap.size W w' from fun W hW => rsize15_ok w.heap.size W r s.size (HDI.out.below hW (Nat.le_refl _)) hW.size HST.out)
  have HCHR := Lib.hid (show ∀ W : World, Calls Tryz.prog 96 #[.string s, .string ⟨#[48, 49]⟩] W fun e w' => e = .returned (.bool (charsB ⟨#[48, 49]⟩ s)) ∧ Below W.heap.size W w' from fun W => rchars_ok W s ⟨#[48, 49]⟩ HIN.out (by decide))
  have HZ := Lib.hid (show res = (r.isSize s.size && charsB ⟨#[48, 49]⟩ s) from by rw [HRE.out, chars_5 HKD.out])
  generalize r.isSize s.size = z at *
  generalize charsB ⟨#[48, 49]⟩ s = y at *
  go_wp2_with fail
  refine (HCHR.out _).mono ?_
  rintro e w2 ⟨rfl, h2⟩
  have HB2 := Lib.hid (HB1.out.trans (h2.mono HB1.out.size))
  obtain ⟨e0, e1, e2, e3, e4⟩ := fiveX (HX1.out.below h2 HX1.out.lt)
  have HRG := Lib.hid (show w2.rangeAt g 0 r.cells from (HX9.out.below h2 HX9.out.lt).range)
  clear h2
  cases y with
  | false =>
    go_wp2_with fail
    go_ret
    exact ⟨by rw [HZ.out, Bool.and_false]; rfl, HB2.out⟩
  | true =>
    go_wp2_with (refine wpList_load_midM (by rfl) 46 (.tmp 9) rfl g 0 rfl r.cells _ HRG.out Tryz.underlying46 rfl (by rw [info_D12, HO.out.1]) ?_)
    refine (HSIZ.out _ HB2.out).mono ?_
    rintro e w3 ⟨rfl, h3⟩
    have HB3 := Lib.hid (HB2.out.trans (h3.mono HB2.out.size))
    clear h3
    go_wp2_with fail
    go_ret
    exact ⟨by rw [HZ.out, Bool.and_true]; rfl, HB3.out⟩
set_option maxHeartbeats 32000000 in
theorem rof_6 (B : Nat) (w : World) (d : TB) (i room : Nat) (m : Int) (s : ByteArray) (nm : SL) (a : Option Addr) (n cap : Nat) (ch : Nat → VT) (hd : TBIn B w d) (hB : B ≤ w.heap.size) (hi : i < d.n) (hv : VIn B w (.mk 6 m s nm a n cap ch)) (hk : (d.f i).kind = 6) (hset : (d.f i).set.n ≤ 1000) :
    Calls Tryz.prog 58 #[.slice d.a d.n d.cap, .int .i64 (i : Nat), .agg (VT.mk 6 m s nm a n cap ch).cells.toArray, .int .i64 (room : Nat)] w fun e w' => e = .returned (.bool ((VT.mk 6 m s nm a n cap ch).has d i)) ∧ Below w.heap.size w w' := by
  have hbd : bare 6 m s.size nm.n n = decide (nm.n = 0 ∧ m = 0 ∧ n = 0) := by
    generalize s.size = sz
    unfold bare
    rw [Bool.eq_iff_iff, decide_eq_true_iff]
    simp
    try omega
  have hhas : (VT.mk 6 m s nm a n cap ch).has d i = (decide (nm.n = 0 ∧ m = 0 ∧ n = 0) && ((d.f i).isSize s.size && (d.f i).chars s)) := by
    simp only [VT.has]
    rw [hk, hbd]
    simp
  obtain ⟨res, hres⟩ : ∃ x, (decide (nm.n = 0 ∧ m = 0 ∧ n = 0) && ((d.f i).isSize s.size && (d.f i).chars s)) = x := ⟨_, rfl⟩
  rw [hhas, hres, list5]
  have HDI := Lib.hid ((hd.2 i hi).below (Below.refl w.heap.size w) hB)
  have HIN := Lib.hid (show s.size ≤ 140737488355328 from hv.1.2.2.1)
  obtain ⟨gx, ox, hix, hgx, hrd⟩ := hd.1.read 22 46 Tryz.underlying22 (by kernel_rfl) Tryz.sizeOf46 hi
  obtain ⟨r, hr⟩ : ∃ r, d.f i = r := ⟨_, rfl⟩
  have HX := Lib.hid (Bx.new w #[.int .i64 6, .int .i64 m, .string s, .slice nm.a nm.n nm.cap, .slice a n cap] 26)
  have HB := Lib.hid ((Below.refl w.heap.size w).alloc (Nat.le_refl _) (.cells #[.int .i64 6, .int .i64 m, .string s, .slice nm.a nm.n nm.cap, .slice a n cap] 26))
  have hra : (w.alloc (.cells #[.int .i64 6, .int .i64 m, .string s, .slice nm.a nm.n nm.cap, .slice a n cap] 26)).rangeAt gx ox r.cells := fun j u hj => hrd _ (HB.out.block gx (by omega)) j u (by rw [hr]; exact hj)
  have HRA := Lib.hid hra
  rw [hr] at HDI hk hset
  try rw [hr] at hres
  have HRES := Lib.hid hres
  have HKD := Lib.hid hk
  have HST := Lib.hid hset
  have HO := Lib.hid (one_dcells15 r)
  clear hd hB hi hv hbd hhas hgx hrd hr hra hset hres
  go_enter Tryz.func58, Tryz.ntmps58
  go_upto_region 1 with fail
  generalize hW0 : w.alloc (.cells #[.int .i64 6, .int .i64 m, .string s, .slice nm.a nm.n nm.cap, .slice a n cap] 26) = W0 at *
  have HSZ := Lib.hid (show W0.heap.size = w.heap.size + 1 from by rw [← hW0, World.size_alloc])
  clear hW0
  go_upto_region 2 with (first | (refine wpList_load_mid rfl 46 (.tmp 15) rfl gx ox rfl r.cells _ HRA.out Tryz.underlying46 rfl (by rw [info_D12, HO.out.1]) ?_) | (refine wpList_store_new rfl 46 (.tmp 9) (.tmp 16) rfl 12 _ r.cells HO.out.1 (by rfl) info_D12 HO.out.2 rfl rfl ?_))
  (try dsimp only [Act.put])
  have HX9 := Lib.hid (Bx.new W0 r.cells.toArray 46)
  have HX1 := Lib.hid (HX.out.alloc (.cells r.cells.toArray 46))
  have HB1 := Lib.hid (HB.out.alloc HB.out.size (.cells r.cells.toArray 46))
  generalize W0.alloc (.cells r.cells.toArray 46) = W1 at *
  obtain ⟨g, hg⟩ : ∃ g, W0.heap.size = g := ⟨_, rfl⟩
  rw [hg] at HX9 HSZ ⊢
  clear hg HX HRA
  obtain ⟨c0, c1, c2, c3, c4⟩ := fiveX HX1.out
  have d0 := HX9.out.cell 0 (v := .int .i64 r.kind) rfl
  rw [hk] at d0
  have d1 := HX9.out.cell 1 (v := .bool r.ext) rfl
  have d2 := HX9.out.cell 2 (v := .slice r.set.a r.set.n r.set.cap) rfl
  have d5 := HX9.out.cell 5 (v := .string r.fr) rfl
  have d6 := HX9.out.cell 6 (v := .slice r.nm.a r.nm.n r.nm.cap) rfl
  have d7 := HX9.out.cell 7 (v := .slice r.mo.a r.mo.n r.mo.cap) rfl
  have HPT := Lib.hid (show ∀ W : World, Calls Tryz.prog 93 #[.int .i64 6] W fun e w' => e = .returned (.bool false) ∧ w' = W from fun W => rparted_ok W 6)
  clear hk
  go_cut [30] from 17 to 30 (fun v wr => v = .bool false ∧ W1 = wr)
  case first =>
    by_cases hrm : room = 0
    · have q1 : ((room : Int) == 0) = true := by simp [hrm]
      clear hrm
      go_wp2_with fail
      refine (HPT.out _).mono ?_
      rintro e w2 ⟨rfl, rfl⟩
      go_wp2_with fail
      go_meet
      exact ⟨rfl, rfl⟩
    · have q1 : ((room : Int) == 0) = false := beq_eq_false_iff_ne.2 (by omega)
      clear hrm
      go_wp2_with fail
      go_meet
      exact ⟨rfl, rfl⟩
  obtain ⟨rfl, rfl⟩ := hcut
  by_cases hn : nm.n = 0
  case neg =>
    have n2 : decide ((0 : Int) < (nm.n : Int)) = true := decide_eq_true (by omega)
    have n3 : decide (0 < nm.n) = true := decide_eq_true (by omega)
    have HZ := Lib.hid (show res = false from by rw [← HRES.out, decide_eq_false (by omega)]; rfl)
    clear hn
    go_wp2_with fail
    go_ret
    exact ⟨by rw [HZ.out]; rfl, HB1.out⟩
  case pos =>
  have n2 : decide ((0 : Int) < (nm.n : Int)) = false := decide_eq_false (by omega)
  have n3 : decide (0 < nm.n) = false := decide_eq_false (by omega)
  have HNN := Lib.hid hn
  clear hn
  by_cases hm : m = 0
  case neg =>
    have m1 : (m != 0) = true := bne_iff_ne.2 hm
    have m2 : (m == 0) = false := beq_eq_false_iff_ne.2 hm
    have HZ := Lib.hid (show res = false from by rw [← HRES.out, decide_eq_false (by omega)]; rfl)
    clear hm
    go_wp2_with fail
    go_ret
    exact ⟨by rw [HZ.out]; rfl, HB1.out⟩
  case pos =>
  have m1 : (m != 0) = false := by rw [hm]; rfl
  have m2 : (m == 0) = true := by rw [hm]; rfl
  have HMM := Lib.hid hm
  clear hm
  by_cases hl : n = 0
  case neg =>
    have l2 : decide ((0 : Int) < (n : Int)) = true := decide_eq_true (by omega)
    have l3 : decide (0 < n) = true := decide_eq_true (by omega)
    have HZ := Lib.hid (show res = false from by rw [← HRES.out, decide_eq_false (by omega)]; rfl)
    clear hl
    go_wp2_with fail
    go_ret
    exact ⟨by rw [HZ.out]; rfl, HB1.out⟩
  case pos =>
  have l2 : decide ((0 : Int) < (n : Int)) = false := decide_eq_false (by omega)
  have l3 : decide (0 < n) = false := decide_eq_false (by omega)
  have HLL := Lib.hid hl
  clear hl
  go_upto_region 6 with fail
  go_cut [73] from 39 to 73 (fun v wx => v = .bool false ∧ W1 = wx)
  case first =>
    go_wp2_with fail
    go_meet
    exact ⟨rfl, rfl⟩
  obtain ⟨rfl, rfl⟩ := hcut
  clear n2 n3 l2 l3 m1 m2
  have hes := empty_str s
  go_upto_region 8 with fail
  go_cut [96] from 74 to 96 (fun v wx => v = .bool false ∧ W1 = wx)
  case first =>
    by_cases hs : s.size = 0
    · have s1 : s.toList.isEmpty = true := by rw [hes, decide_eq_true hs]
      have s2 : (!s.toList.isEmpty) = false := by rw [s1]; rfl
      clear hs hes
      go_wp2_with fail
      go_meet
      exact ⟨rfl, rfl⟩
    · have s1 : s.toList.isEmpty = false := by rw [hes, decide_eq_false hs]
      have s2 : (!s.toList.isEmpty) = true := by rw [s1]; rfl
      clear hs hes
      go_wp2_with fail
      go_meet
      exact ⟨rfl, rfl⟩
  obtain ⟨rfl, rfl⟩ := hcut
  clear hes
  have HRE := Lib.hid (show res = (r.isSize s.size && r.chars s) from by rw [← HRES.out, decide_eq_true (by have h1 := HNN.out; have h3 := HLL.out; have h2 := HMM.out; omega)]; rfl)
  have HSIZ := Lib.hid (show ∀ W, Below w.heap.size w W → Calls Tryz.prog 97 #[.agg r.cells.toArray, .int .i64 (s.size : Nat)] W fun e w' => e = .returned (.bool (r.isSize s.size)) ∧ Below W.heap.size W w' from fun W hW => rsize15_ok w.heap.size W r s.size (HDI.out.below hW (Nat.le_refl _)) hW.size HST.out)
  have HZ := Lib.hid (show res = r.isSize s.size from by rw [HRE.out, chars_6 HKD.out, Bool.and_true])
  generalize r.isSize s.size = z at *
  have HRG := Lib.hid (show W1.rangeAt g 0 r.cells from HX9.out.range)
  go_wp2_with (refine wpList_load_mid rfl 46 (.tmp 9) rfl g 0 rfl r.cells _ HRG.out Tryz.underlying46 rfl (by rw [info_D12, HO.out.1]) ?_)
  refine (HSIZ.out _ HB1.out).mono ?_
  rintro e w2 ⟨rfl, h2⟩
  have HB2 := Lib.hid (HB1.out.trans (h2.mono HB1.out.size))
  clear h2
  go_wp2_with fail
  go_ret
  exact ⟨by rw [HZ.out]; rfl, HB2.out⟩
set_option maxHeartbeats 32000000 in
theorem rof_7 (B : Nat) (w : World) (d : TB) (i room : Nat) (m : Int) (s : ByteArray) (nm : SL) (a : Option Addr) (n cap : Nat) (ch : Nat → VT) (hd : TBIn B w d) (hB : B ≤ w.heap.size) (hi : i < d.n) (hv : VIn B w (.mk 7 m s nm a n cap ch)) (hk : (d.f i).kind = 7) (hset : (d.f i).set.n ≤ 1000) :
    Calls Tryz.prog 58 #[.slice d.a d.n d.cap, .int .i64 (i : Nat), .agg (VT.mk 7 m s nm a n cap ch).cells.toArray, .int .i64 (room : Nat)] w fun e w' => e = .returned (.bool ((VT.mk 7 m s nm a n cap ch).has d i)) ∧ Below w.heap.size w w' := by
  have hbd : bare 7 m s.size nm.n n = decide (nm.n = 0 ∧ m = 0 ∧ n = 0) := by
    generalize s.size = sz
    unfold bare
    rw [Bool.eq_iff_iff, decide_eq_true_iff]
    simp
    try omega
  have hhas : (VT.mk 7 m s nm a n cap ch).has d i = (decide (nm.n = 0 ∧ m = 0 ∧ n = 0) && ((d.f i).isSize s.size && (d.f i).chars s)) := by
    simp only [VT.has]
    rw [hk, hbd]
    simp
  obtain ⟨res, hres⟩ : ∃ x, (decide (nm.n = 0 ∧ m = 0 ∧ n = 0) && ((d.f i).isSize s.size && (d.f i).chars s)) = x := ⟨_, rfl⟩
  rw [hhas, hres, list5]
  have HDI := Lib.hid ((hd.2 i hi).below (Below.refl w.heap.size w) hB)
  have HIN := Lib.hid (show s.size ≤ 140737488355328 from hv.1.2.2.1)
  obtain ⟨gx, ox, hix, hgx, hrd⟩ := hd.1.read 22 46 Tryz.underlying22 (by kernel_rfl) Tryz.sizeOf46 hi
  obtain ⟨r, hr⟩ : ∃ r, d.f i = r := ⟨_, rfl⟩
  have HX := Lib.hid (Bx.new w #[.int .i64 7, .int .i64 m, .string s, .slice nm.a nm.n nm.cap, .slice a n cap] 26)
  have HB := Lib.hid ((Below.refl w.heap.size w).alloc (Nat.le_refl _) (.cells #[.int .i64 7, .int .i64 m, .string s, .slice nm.a nm.n nm.cap, .slice a n cap] 26))
  have hra : (w.alloc (.cells #[.int .i64 7, .int .i64 m, .string s, .slice nm.a nm.n nm.cap, .slice a n cap] 26)).rangeAt gx ox r.cells := fun j u hj => hrd _ (HB.out.block gx (by omega)) j u (by rw [hr]; exact hj)
  have HRA := Lib.hid hra
  rw [hr] at HDI hk hset
  try rw [hr] at hres
  have HRES := Lib.hid hres
  have HKD := Lib.hid hk
  have HST := Lib.hid hset
  have HO := Lib.hid (one_dcells15 r)
  clear hd hB hi hv hbd hhas hgx hrd hr hra hset hres
  go_enter Tryz.func58, Tryz.ntmps58
  go_upto_region 1 with fail
  generalize hW0 : w.alloc (.cells #[.int .i64 7, .int .i64 m, .string s, .slice nm.a nm.n nm.cap, .slice a n cap] 26) = W0 at *
  have HSZ := Lib.hid (show W0.heap.size = w.heap.size + 1 from by rw [← hW0, World.size_alloc])
  clear hW0
  go_upto_region 2 with (first | (refine wpList_load_mid rfl 46 (.tmp 15) rfl gx ox rfl r.cells _ HRA.out Tryz.underlying46 rfl (by rw [info_D12, HO.out.1]) ?_) | (refine wpList_store_new rfl 46 (.tmp 9) (.tmp 16) rfl 12 _ r.cells HO.out.1 (by rfl) info_D12 HO.out.2 rfl rfl ?_))
  (try dsimp only [Act.put])
  have HX9 := Lib.hid (Bx.new W0 r.cells.toArray 46)
  have HX1 := Lib.hid (HX.out.alloc (.cells r.cells.toArray 46))
  have HB1 := Lib.hid (HB.out.alloc HB.out.size (.cells r.cells.toArray 46))
  generalize W0.alloc (.cells r.cells.toArray 46) = W1 at *
  obtain ⟨g, hg⟩ : ∃ g, W0.heap.size = g := ⟨_, rfl⟩
  rw [hg] at HX9 HSZ ⊢
  clear hg HX HRA
  obtain ⟨c0, c1, c2, c3, c4⟩ := fiveX HX1.out
  have d0 := HX9.out.cell 0 (v := .int .i64 r.kind) rfl
  rw [hk] at d0
  have d1 := HX9.out.cell 1 (v := .bool r.ext) rfl
  have d2 := HX9.out.cell 2 (v := .slice r.set.a r.set.n r.set.cap) rfl
  have d5 := HX9.out.cell 5 (v := .string r.fr) rfl
  have d6 := HX9.out.cell 6 (v := .slice r.nm.a r.nm.n r.nm.cap) rfl
  have d7 := HX9.out.cell 7 (v := .slice r.mo.a r.mo.n r.mo.cap) rfl
  have HPT := Lib.hid (show ∀ W : World, Calls Tryz.prog 93 #[.int .i64 7] W fun e w' => e = .returned (.bool false) ∧ w' = W from fun W => rparted_ok W 7)
  clear hk
  go_cut [30] from 17 to 30 (fun v wr => v = .bool false ∧ W1 = wr)
  case first =>
    by_cases hrm : room = 0
    · have q1 : ((room : Int) == 0) = true := by simp [hrm]
      clear hrm
      go_wp2_with fail
      refine (HPT.out _).mono ?_
      rintro e w2 ⟨rfl, rfl⟩
      go_wp2_with fail
      go_meet
      exact ⟨rfl, rfl⟩
    · have q1 : ((room : Int) == 0) = false := beq_eq_false_iff_ne.2 (by omega)
      clear hrm
      go_wp2_with fail
      go_meet
      exact ⟨rfl, rfl⟩
  obtain ⟨rfl, rfl⟩ := hcut
  by_cases hn : nm.n = 0
  case neg =>
    have n2 : decide ((0 : Int) < (nm.n : Int)) = true := decide_eq_true (by omega)
    have n3 : decide (0 < nm.n) = true := decide_eq_true (by omega)
    have HZ := Lib.hid (show res = false from by rw [← HRES.out, decide_eq_false (by omega)]; rfl)
    clear hn
    go_wp2_with fail
    go_ret
    exact ⟨by rw [HZ.out]; rfl, HB1.out⟩
  case pos =>
  have n2 : decide ((0 : Int) < (nm.n : Int)) = false := decide_eq_false (by omega)
  have n3 : decide (0 < nm.n) = false := decide_eq_false (by omega)
  have HNN := Lib.hid hn
  clear hn
  by_cases hm : m = 0
  case neg =>
    have m1 : (m != 0) = true := bne_iff_ne.2 hm
    have m2 : (m == 0) = false := beq_eq_false_iff_ne.2 hm
    have HZ := Lib.hid (show res = false from by rw [← HRES.out, decide_eq_false (by omega)]; rfl)
    clear hm
    go_wp2_with fail
    go_ret
    exact ⟨by rw [HZ.out]; rfl, HB1.out⟩
  case pos =>
  have m1 : (m != 0) = false := by rw [hm]; rfl
  have m2 : (m == 0) = true := by rw [hm]; rfl
  have HMM := Lib.hid hm
  clear hm
  by_cases hl : n = 0
  case neg =>
    have l2 : decide ((0 : Int) < (n : Int)) = true := decide_eq_true (by omega)
    have l3 : decide (0 < n) = true := decide_eq_true (by omega)
    have HZ := Lib.hid (show res = false from by rw [← HRES.out, decide_eq_false (by omega)]; rfl)
    clear hl
    go_wp2_with fail
    go_ret
    exact ⟨by rw [HZ.out]; rfl, HB1.out⟩
  case pos =>
  have l2 : decide ((0 : Int) < (n : Int)) = false := decide_eq_false (by omega)
  have l3 : decide (0 < n) = false := decide_eq_false (by omega)
  have HLL := Lib.hid hl
  clear hl
  go_upto_region 6 with fail
  go_cut [73] from 39 to 73 (fun v wx => v = .bool false ∧ W1 = wx)
  case first =>
    go_wp2_with fail
    go_meet
    exact ⟨rfl, rfl⟩
  obtain ⟨rfl, rfl⟩ := hcut
  clear n2 n3 l2 l3 m1 m2
  have hes := empty_str s
  go_upto_region 8 with fail
  go_cut [96] from 74 to 96 (fun v wx => v = .bool false ∧ W1 = wx)
  case first =>
    by_cases hs : s.size = 0
    · have s1 : s.toList.isEmpty = true := by rw [hes, decide_eq_true hs]
      have s2 : (!s.toList.isEmpty) = false := by rw [s1]; rfl
      clear hs hes
      go_wp2_with fail
      go_meet
      exact ⟨rfl, rfl⟩
    · have s1 : s.toList.isEmpty = false := by rw [hes, decide_eq_false hs]
      have s2 : (!s.toList.isEmpty) = true := by rw [s1]; rfl
      clear hs hes
      go_wp2_with fail
      go_meet
      exact ⟨rfl, rfl⟩
  obtain ⟨rfl, rfl⟩ := hcut
  clear hes
  have HRE := Lib.hid (show res = (r.isSize s.size && r.chars s) from by rw [← HRES.out, decide_eq_true (by have h1 := HNN.out; have h3 := HLL.out; have h2 := HMM.out; omega)]; rfl)
  have HSIZ := Lib.hid (show ∀ W, Below w.heap.size w W → Calls Tryz.prog 97 #[.agg r.cells.toArray, .int .i64 (s.size : Nat)] W fun e w' => e = .returned (.bool (r.isSize s.size)) ∧ Below W.heap.size W w' from fun W hW => rsize15_ok w.heap.size W r s.size (HDI.out.below hW (Nat.le_refl _)) hW.size HST.out)
  have HCHR := Lib.hid (show ∀ W : World, Calls Tryz.prog 96 #[.string s, .string r.fr] W fun e w' => e = .returned (.bool (charsB r.fr s)) ∧ Below W.heap.size W w' from fun W => rchars_ok W s r.fr HIN.out (HDI.out.1.2.2.2.2))
  have HZ := Lib.hid (show res = (r.isSize s.size && charsB r.fr s) from by rw [HRE.out, chars_7 HKD.out])
  generalize r.isSize s.size = z at *
  generalize charsB r.fr s = y at *
  go_wp2_with fail
  refine (HCHR.out _).mono ?_
  rintro e w2 ⟨rfl, h2⟩
  have HB2 := Lib.hid (HB1.out.trans (h2.mono HB1.out.size))
  obtain ⟨e0, e1, e2, e3, e4⟩ := fiveX (HX1.out.below h2 HX1.out.lt)
  have HRG := Lib.hid (show w2.rangeAt g 0 r.cells from (HX9.out.below h2 HX9.out.lt).range)
  clear h2
  cases y with
  | false =>
    go_wp2_with fail
    go_ret
    exact ⟨by rw [HZ.out, Bool.and_false]; rfl, HB2.out⟩
  | true =>
    go_wp2_with (refine wpList_load_midM (by rfl) 46 (.tmp 9) rfl g 0 rfl r.cells _ HRG.out Tryz.underlying46 rfl (by rw [info_D12, HO.out.1]) ?_)
    refine (HSIZ.out _ HB2.out).mono ?_
    rintro e w3 ⟨rfl, h3⟩
    have HB3 := Lib.hid (HB2.out.trans (h3.mono HB2.out.size))
    clear h3
    go_wp2_with fail
    go_ret
    exact ⟨by rw [HZ.out, Bool.and_true]; rfl, HB3.out⟩
end Go.Proofs.YtjhecpkdpomkmaaGreat
