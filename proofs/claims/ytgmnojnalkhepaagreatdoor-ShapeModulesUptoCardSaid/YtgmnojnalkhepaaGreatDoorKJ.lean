/-
  A bundle of texts, one behind the other: ShNT3, ShNT4.
-/
import Derived.Test.YtgmnojnalkhepaaGreatDoorKI
/-
  The document's ModuleText: no imports, tags.
-/
namespace Go.Proofs.YtgmnojnalkhepaaGreatDoor
open Go.RowKit
set_option linter.unusedVariables false
set_option linter.unusedSimpArgs false
set_option maxRecDepth 100000

set_option maxHeartbeats 8000000 in
theorem rModuleText_t3 (name : ByteArray) (ia : Option Addr) (ni icap : Nat) (im : Nat → IM) (da : Option Addr) (nd dcap : Nat) (df : Nat → DF) (B : Nat) (w : World) (hm : MIn B w (MT.mk name true ia ni icap im da nd dcap df)) (hB : B ≤ w.heap.size) (hw : (MT.mk name true ia ni icap im da nd dcap df).wt ≤ 2000000) (hok : (MT.mk name true ia ni icap im da nd dcap df).ok = true) (hi0 : ¬ 0 < ni)
    (RT : ∀ j, j < nd → ∀ W, Below w.heap.size w W → Calls Tryz.prog 25 #[.agg (df j).t.cells.toArray] W fun e w' => e = .returned (.string (bs (df j).t.txt)) ∧ Below W.heap.size W w') :
    Calls Tryz.prog 9 #[.agg #[.string name, .bool true, .slice ia ni icap, .slice da nd dcap]] w fun e w' => e = .returned (.string (bs (MT.mk name true ia ni icap im da nd dcap df).txt)) ∧ Below w.heap.size w w' := by
  have HOK := Lib.hid (fun (W : World) (hb : Below w.heap.size w W) => hok ▸ rModule_ok (MT.mk name true ia ni icap im da nd dcap df) B W (hm.below (hb.mono hB) (Nat.le_refl _)) (Nat.le_trans hB hb.size))
  have hq := (MT.ok_text _ hm hw hok)
  have HX := Lib.hid (Bx.new w #[.string name, .bool true, .slice ia ni icap, .slice da nd dcap] 25)
  have HB0 := Lib.hid ((Below.refl w.heap.size w).alloc (Nat.le_refl _) (.cells #[.string name, .bool true, .slice ia ni icap, .slice da nd dcap] 25))
  have hns : name.size ≤ 2000000 := by unfold MT.wt at hw; dsimp only at hw; omega
  have HRI := Lib.hid (fun (W : World) (hb : Below w.heap.size w W) => And.intro (hm.below (hb.mono hB) (Nat.le_refl _)).2.1 (Nat.le_trans hB hb.size))
  have HRD := Lib.hid (fun (W : World) (hb : Below w.heap.size w W) => (hm.below (hb.mono hB) (Nat.le_refl _)).2.2)
  obtain ⟨FD, hFD⟩ : ∃ F, (fun i => (df i).txt) = F := ⟨_, rfl⟩
  have HFD := Lib.hid (show ∀ i, FD i = (df i).txt from fun i => by rw [← hFD])
  have hnd : nd ≤ 9223372036854775807 := by have h1 := hm.2.2.1.1; have h2 := hm.2.2.1.2.1; dsimp only at h1 h2; omega
  obtain ⟨FI, hFI⟩ : ∃ F, (fun i => (im i).txt) = F := ⟨_, rfl⟩
  have HFI := Lib.hid (show ∀ i, FI i = (im i).txt from fun i => by rw [← hFI])
  obtain ⟨N, hN⟩ : ∃ N, name.data.toList = N := ⟨_, rfl⟩
  obtain rfl : name = bs N := by rw [← hN, bs_data]
  have HLE := Lib.hid (show N.length + (catL FD nd).length + 100 ≤ 1000000000 by
    have h1 := hq.2
    unfold MT.txt hdT impT at h1
    dsimp only at h1
    rw [if_neg hi0, hFD, bs_list] at h1
    simp only [List.length_append] at h1
    omega)
  have hni : ni ≤ 9223372036854775807 := by have h1 := hm.2.1.1.1; have h2 := hm.2.1.1.2.1; dsimp only at h1 h2; omega
  have z1 : ¬ 9223372036854775807 < (bs N).size + 12 := by omega
  have z2 : ¬ 9223372036854775807 < (bs N).size + 12 + 15 := by omega
  have z3 : ¬ 9223372036854775807 < (bs N).size + 12 + 15 + 11 := by omega
  have p1 : decide ((0 : Int) < (ni : Int)) = false := decide_eq_false (by omega)
  have p1n : decide (0 < ni) = false := decide_eq_false (by omega)
  obtain ⟨L2, hL2⟩ : ∃ L2, N ++ ([32, 68, 69, 70, 73, 78, 73, 84, 73, 79, 78, 83] ++ ([32, 65, 85, 84, 79, 77, 65, 84, 73, 67, 32, 84, 65, 71, 83] ++ ([32, 58, 58, 61, 32, 66, 69, 71, 73, 78, 10]))) = L2 := ⟨_, rfl⟩
  have hl2 : L2.length = N.length + 38 := by rw [← hL2]; simp
  have e0 : bs N ++ (⟨#[32, 68, 69, 70, 73, 78, 73, 84, 73, 79, 78, 83]⟩ : ByteArray) ++ (⟨#[32, 65, 85, 84, 79, 77, 65, 84, 73, 67, 32, 84, 65, 71, 83]⟩ : ByteArray) ++ (⟨#[32, 58, 58, 61, 32, 66, 69, 71, 73, 78, 10]⟩ : ByteArray) = bs L2 := by
    rw [← hL2]
    show bs N ++ bs [32, 68, 69, 70, 73, 78, 73, 84, 73, 79, 78, 83] ++ bs [32, 65, 85, 84, 79, 77, 65, 84, 73, 67, 32, 84, 65, 71, 83] ++ bs [32, 58, 58, 61, 32, 66, 69, 71, 73, 78, 10] = _
    simp only [bs_append, List.append_assoc]
  have HTXT := Lib.hid (show (MT.mk (bs N) true ia ni icap im da nd dcap df).txt = L2 ++ (catL FD nd ++ [69, 78, 68, 10]) by
    rw [← hL2, ← hFD]
    unfold MT.txt hdT impT
    dsimp only
    rw [if_neg hi0, bs_list]
    simp)
  clear hL2 hi0
  simp only [MT.cells] at HOK
  go_enter Tryz.func9, Tryz.ntmps9
  go_wp2_with fail
  refine (HOK.out _ HB0.out).mono ?_
  rintro e w1 ⟨rfl, hb⟩
  have HB1 := Lib.hid (HB0.out.trans (hb.mono HB0.out.size))
  have HX1 := Lib.hid (HX.out.below hb HX.out.lt)
  have c0 := HX1.out.cell 0 (v := .string (bs N)) rfl
  have c1 := HX1.out.cell 1 (v := .bool true) rfl
  have c2 := HX1.out.cell 2 (v := .slice ia ni icap) rfl
  clear hb
  go_wp2_with fail
  try rw [e0]
  have HB2 := HB1
  have HX2 := HX1
  clear e0 c0 c1 c2 z1 z2 z3
  go_loopw [3, 6] (fun ov iv wr => RelRD w L2 FD nd w.heap.size #[.string (bs N), .bool true, .slice ia ni icap, .slice da nd dcap] ov iv wr) (fun _ iv _ => nd - (Lib.intOf iv).toNat)
  case atStart => exact ⟨0, Nat.zero_le _, rfl, by simp only [catL, List.append_nil], HX2.out, HB2.out⟩
  case round =>
    obtain ⟨j, hj, rfl, rfl, hbx, hbel⟩ := hrel
    have HB3 := Lib.hid hbel
    have HX3 := Lib.hid hbx
    have c3 := hbx.cell 3 (v := .slice da nd dcap) rfl
    clear hbel hbx
    by_cases hjl : j < nd
    · have p3 : decide ((j : Int) < (nd : Int)) = true := decide_eq_true (by omega)
      have p3n : decide (j < nd) = true := decide_eq_true hjl
      have q4 : IntKind.i64.wrap ((j : Int) + 1) = ((j + 1 : Nat) : Int) := wrap_succ hjl hnd
      obtain ⟨gx, ox, hix, hgx, hrd⟩ := dRow_read (HRD.out _ HB3.out).1 hjl
      have hsz3 := HB3.out.size
      have HBI := Lib.hid (show B ≤ w.heap.size from hB)
      have h15 := (one_tcells ((HRD.out _ HB3.out).2 j hjl).2).1
      have hFj := HFD.out j
      have HTT := RT j hjl
      obtain ⟨x, hx⟩ : ∃ x, df j = x := ⟨_, rfl⟩
      rw [hx] at hrd hFj HTT h15
      clear hx
      obtain ⟨dn, dt⟩ := x
      obtain ⟨DN, hDN⟩ : ∃ DN, dn.data.toList = DN := ⟨_, rfl⟩
      obtain rfl : dn = bs DN := by rw [← hDN, bs_data]
      obtain ⟨v0, v1, v2, v3, v4, v5, v6, v7, v8, v9, v10, v11, v12, v13, v14, hcs⟩ := list15n dt.cells h15
      have hSa : ∀ W' : World, W'.heap[gx]? = wr.heap[gx]? → (W'.cell? ⟨gx, ox, none⟩ = some (.string (bs DN)) ∧ W'.cell? ⟨gx, ox + 1, none⟩ = some v0 ∧ W'.cell? ⟨gx, ox + 1 + 1, none⟩ = some v1 ∧ W'.cell? ⟨gx, ox + 1 + 2, none⟩ = some v2 ∧ W'.cell? ⟨gx, ox + 1 + 3, none⟩ = some v3 ∧ W'.cell? ⟨gx, ox + 1 + 4, none⟩ = some v4 ∧ W'.cell? ⟨gx, ox + 1 + 5, none⟩ = some v5 ∧ W'.cell? ⟨gx, ox + 1 + 6, none⟩ = some v6 ∧ W'.cell? ⟨gx, ox + 1 + 7, none⟩ = some v7 ∧ W'.cell? ⟨gx, ox + 1 + 8, none⟩ = some v8 ∧ W'.cell? ⟨gx, ox + 1 + 9, none⟩ = some v9 ∧ W'.cell? ⟨gx, ox + 1 + 10, none⟩ = some v10 ∧ W'.cell? ⟨gx, ox + 1 + 11, none⟩ = some v11 ∧ W'.cell? ⟨gx, ox + 1 + 12, none⟩ = some v12 ∧ W'.cell? ⟨gx, ox + 1 + 13, none⟩ = some v13 ∧ W'.cell? ⟨gx, ox + 1 + 14, none⟩ = some v14) := fun W' hW => by
        have h1 := range_dt (hrd W' hW)
        dsimp only at h1
        rw [hcs] at h1
        exact ⟨hrd W' hW 0 _ rfl, h1 0 _ rfl, h1 1 _ rfl, h1 2 _ rfl, h1 3 _ rfl, h1 4 _ rfl, h1 5 _ rfl, h1 6 _ rfl, h1 7 _ rfl, h1 8 _ rfl, h1 9 _ rfl, h1 10 _ rfl, h1 11 _ rfl, h1 12 _ rfl, h1 13 _ rfl, h1 14 _ rfl⟩
      have HSW := Lib.hid (fun (W' : World) (hb : Below wr.heap.size wr W') => And.intro ((HX3.out.below hb HX3.out.lt).cell 3 (v := .slice da nd dcap) rfl) (hSa W' (hb.block gx (by omega))))
      have HTX := Lib.hid (show ∀ W' : World, Below w.heap.size w W' → Calls Tryz.prog 25 #[.agg #[v0, v1, v2, v3, v4, v5, v6, v7, v8, v9, v10, v11, v12, v13, v14]] W' fun e w' => e = .returned (.string (bs dt.txt)) ∧ Below W'.heap.size W' w' from fun W' hb => by have h1 := HTT W' hb; dsimp only at h1; rw [hcs] at h1; exact h1)
      have HBd := Lib.hid (Below.drew (Below.refl wr.heap.size wr))
      have HS0 := Lib.hid (HSW.out _ HBd.out)
      obtain ⟨T, hT⟩ : ∃ T, dt.txt = T := ⟨_, rfl⟩
      rw [hT] at HTX
      have hFk : FD j = DN ++ ([32, 58, 58, 61, 32] ++ (T ++ [10])) := by rw [hFj, ← hT]; show (bs DN).data.toList ++ _ = _; rw [bs_list]
      have hlj : (L2 ++ catL FD j).length + (FD j).length + 10 ≤ 2000000000 := by
        have h1 := catL_mono (f := FD) (n := nd) (i := j + 1) (by omega)
        have h2 := HLE.out
        simp only [catL, List.length_append] at h1 ⊢
        omega
      have hlk : (L2 ++ catL FD j).length + DN.length + T.length + 16 ≤ 2000000000 := by
        rw [hFk] at hlj
        simp only [List.length_append, List.length_cons, List.length_nil] at hlj ⊢
        omega
      obtain ⟨L3, hL3⟩ : ∃ L3, L2 ++ catL FD j = L3 := ⟨_, rfl⟩
      have e3 : bs L3 ++ bs DN ++ (⟨#[32, 58, 58, 61, 32]⟩ : ByteArray) ++ bs T ++ (⟨#[10]⟩ : ByteArray) = bs (L2 ++ catL FD (j + 1)) := by
        show bs L3 ++ bs DN ++ bs [32, 58, 58, 61, 32] ++ bs T ++ bs [10] = bs (L2 ++ (catL FD j ++ FD j))
        rw [hFk, ← List.append_assoc L2, hL3]
        simp only [bs_append, List.append_assoc]
      rw [hL3] at hlk ⊢
      have HE3 := Lib.hid e3
      have u1 : ¬ 9223372036854775807 < (bs L3).size + (bs DN).size := by rw [bs_size, bs_size]; omega
      have u2 : ¬ 9223372036854775807 < (bs L3).size + (bs DN).size + 5 := by rw [bs_size, bs_size]; omega
      have u3 : ¬ 9223372036854775807 < (bs L3).size + (bs DN).size + 5 + (bs T).size := by rw [bs_size, bs_size, bs_size]; omega
      have u4 : ¬ 9223372036854775807 < (bs L3).size + (bs DN).size + 5 + (bs T).size + 1 := by rw [bs_size, bs_size, bs_size]; omega
      clear hrd hSa hcs h15 hFj HTT hT hFk hlj hlk hL3 e3 hDN
      go_wp2_with fail
      clear c3
      go_region_held3 (fun w' => w'.cell? ⟨w.heap.size, 3, none⟩ = some (.slice da nd dcap) ∧ w'.cell? ⟨gx, ox, none⟩ = some (.string (bs DN)) ∧ w'.cell? ⟨gx, ox + 1, none⟩ = some v0 ∧ w'.cell? ⟨gx, ox + 1 + 1, none⟩ = some v1 ∧ w'.cell? ⟨gx, ox + 1 + 2, none⟩ = some v2 ∧ w'.cell? ⟨gx, ox + 1 + 3, none⟩ = some v3 ∧ w'.cell? ⟨gx, ox + 1 + 4, none⟩ = some v4 ∧ w'.cell? ⟨gx, ox + 1 + 5, none⟩ = some v5 ∧ w'.cell? ⟨gx, ox + 1 + 6, none⟩ = some v6 ∧ w'.cell? ⟨gx, ox + 1 + 7, none⟩ = some v7 ∧ w'.cell? ⟨gx, ox + 1 + 8, none⟩ = some v8 ∧ w'.cell? ⟨gx, ox + 1 + 9, none⟩ = some v9 ∧ w'.cell? ⟨gx, ox + 1 + 10, none⟩ = some v10 ∧ w'.cell? ⟨gx, ox + 1 + 11, none⟩ = some v11 ∧ w'.cell? ⟨gx, ox + 1 + 12, none⟩ = some v12 ∧ w'.cell? ⟨gx, ox + 1 + 13, none⟩ = some v13 ∧ w'.cell? ⟨gx, ox + 1 + 14, none⟩ = some v14) (first | with_reducible exact HS5.out | with_reducible exact HS0.out) (first
        | (go_at_call 25; refine (HTX.out _ (HB3.out.trans (HBd.out.mono hsz3))).mono ?_; rintro e w5 ⟨rfl, hb⟩; have HB5 := Lib.hid (HBd.out.trans (hb.mono HBd.out.size)); have HS5 := Lib.hid (HSW.out w5 HB5.out); clear hb))
      all_goals go_wp2_with fail
      all_goals exact ⟨⟨j + 1, hjl, rfl, by rw [HE3.out], HX3.out.below HB5.out HX3.out.lt, HB3.out.trans (HB5.out.mono hsz3)⟩, by simp only [Lib.intOf]; omega⟩
    · have p3 : decide ((j : Int) < (nd : Int)) = false := decide_eq_false (by omega)
      have p3n : decide (j < nd) = false := decide_eq_false hjl
      obtain rfl : j = nd := by omega
      have v9 : ¬ 9223372036854775807 < (bs (L2 ++ catL FD j)).size + 4 := by rw [bs_size, List.length_append]; have := HLE.out; omega
      have e9 : bs (L2 ++ catL FD j) ++ (⟨#[69, 78, 68, 10]⟩ : ByteArray) = bs (L2 ++ (catL FD j ++ [69, 78, 68, 10])) := by
        show bs _ ++ bs [69, 78, 68, 10] = _
        rw [bs_append, List.append_assoc]
      have HE9 := Lib.hid e9
      clear e9
      go_wp2_with fail
      go_ret
      refine ⟨?_, HB3.out⟩
      rw [HTXT.out, ← HE9.out]
      rfl
end Go.Proofs.YtgmnojnalkhepaaGreatDoor

/-
  The document's ModuleText: no imports, no tags.
-/
namespace Go.Proofs.YtgmnojnalkhepaaGreatDoor
open Go.RowKit
set_option linter.unusedVariables false
set_option linter.unusedSimpArgs false
set_option maxRecDepth 100000

set_option maxHeartbeats 8000000 in
theorem rModuleText_t4 (name : ByteArray) (ia : Option Addr) (ni icap : Nat) (im : Nat → IM) (da : Option Addr) (nd dcap : Nat) (df : Nat → DF) (B : Nat) (w : World) (hm : MIn B w (MT.mk name false ia ni icap im da nd dcap df)) (hB : B ≤ w.heap.size) (hw : (MT.mk name false ia ni icap im da nd dcap df).wt ≤ 2000000) (hok : (MT.mk name false ia ni icap im da nd dcap df).ok = true) (hi0 : ¬ 0 < ni)
    (RT : ∀ j, j < nd → ∀ W, Below w.heap.size w W → Calls Tryz.prog 25 #[.agg (df j).t.cells.toArray] W fun e w' => e = .returned (.string (bs (df j).t.txt)) ∧ Below W.heap.size W w') :
    Calls Tryz.prog 9 #[.agg #[.string name, .bool false, .slice ia ni icap, .slice da nd dcap]] w fun e w' => e = .returned (.string (bs (MT.mk name false ia ni icap im da nd dcap df).txt)) ∧ Below w.heap.size w w' := by
  have HOK := Lib.hid (fun (W : World) (hb : Below w.heap.size w W) => hok ▸ rModule_ok (MT.mk name false ia ni icap im da nd dcap df) B W (hm.below (hb.mono hB) (Nat.le_refl _)) (Nat.le_trans hB hb.size))
  have hq := (MT.ok_text _ hm hw hok)
  have HX := Lib.hid (Bx.new w #[.string name, .bool false, .slice ia ni icap, .slice da nd dcap] 25)
  have HB0 := Lib.hid ((Below.refl w.heap.size w).alloc (Nat.le_refl _) (.cells #[.string name, .bool false, .slice ia ni icap, .slice da nd dcap] 25))
  have hns : name.size ≤ 2000000 := by unfold MT.wt at hw; dsimp only at hw; omega
  have HRI := Lib.hid (fun (W : World) (hb : Below w.heap.size w W) => And.intro (hm.below (hb.mono hB) (Nat.le_refl _)).2.1 (Nat.le_trans hB hb.size))
  have HRD := Lib.hid (fun (W : World) (hb : Below w.heap.size w W) => (hm.below (hb.mono hB) (Nat.le_refl _)).2.2)
  obtain ⟨FD, hFD⟩ : ∃ F, (fun i => (df i).txt) = F := ⟨_, rfl⟩
  have HFD := Lib.hid (show ∀ i, FD i = (df i).txt from fun i => by rw [← hFD])
  have hnd : nd ≤ 9223372036854775807 := by have h1 := hm.2.2.1.1; have h2 := hm.2.2.1.2.1; dsimp only at h1 h2; omega
  obtain ⟨FI, hFI⟩ : ∃ F, (fun i => (im i).txt) = F := ⟨_, rfl⟩
  have HFI := Lib.hid (show ∀ i, FI i = (im i).txt from fun i => by rw [← hFI])
  obtain ⟨N, hN⟩ : ∃ N, name.data.toList = N := ⟨_, rfl⟩
  obtain rfl : name = bs N := by rw [← hN, bs_data]
  have HLE := Lib.hid (show N.length + (catL FD nd).length + 100 ≤ 1000000000 by
    have h1 := hq.2
    unfold MT.txt hdT impT at h1
    dsimp only at h1
    rw [if_neg hi0, hFD, bs_list] at h1
    simp only [List.length_append] at h1
    omega)
  have hni : ni ≤ 9223372036854775807 := by have h1 := hm.2.1.1.1; have h2 := hm.2.1.1.2.1; dsimp only at h1 h2; omega
  have z1 : ¬ 9223372036854775807 < (bs N).size + 12 := by omega
  have z2 : ¬ 9223372036854775807 < (bs N).size + 12 + 11 := by omega
  have p1 : decide ((0 : Int) < (ni : Int)) = false := decide_eq_false (by omega)
  have p1n : decide (0 < ni) = false := decide_eq_false (by omega)
  obtain ⟨L2, hL2⟩ : ∃ L2, N ++ ([32, 68, 69, 70, 73, 78, 73, 84, 73, 79, 78, 83] ++ ([32, 58, 58, 61, 32, 66, 69, 71, 73, 78, 10])) = L2 := ⟨_, rfl⟩
  have hl2 : L2.length = N.length + 23 := by rw [← hL2]; simp
  have e0 : bs N ++ (⟨#[32, 68, 69, 70, 73, 78, 73, 84, 73, 79, 78, 83]⟩ : ByteArray) ++ (⟨#[32, 58, 58, 61, 32, 66, 69, 71, 73, 78, 10]⟩ : ByteArray) = bs L2 := by
    rw [← hL2]
    show bs N ++ bs [32, 68, 69, 70, 73, 78, 73, 84, 73, 79, 78, 83] ++ bs [32, 58, 58, 61, 32, 66, 69, 71, 73, 78, 10] = _
    simp only [bs_append, List.append_assoc]
  have HTXT := Lib.hid (show (MT.mk (bs N) false ia ni icap im da nd dcap df).txt = L2 ++ (catL FD nd ++ [69, 78, 68, 10]) by
    rw [← hL2, ← hFD]
    unfold MT.txt hdT impT
    dsimp only
    rw [if_neg hi0, bs_list]
    simp)
  clear hL2 hi0
  simp only [MT.cells] at HOK
  go_enter Tryz.func9, Tryz.ntmps9
  go_wp2_with fail
  refine (HOK.out _ HB0.out).mono ?_
  rintro e w1 ⟨rfl, hb⟩
  have HB1 := Lib.hid (HB0.out.trans (hb.mono HB0.out.size))
  have HX1 := Lib.hid (HX.out.below hb HX.out.lt)
  have c0 := HX1.out.cell 0 (v := .string (bs N)) rfl
  have c1 := HX1.out.cell 1 (v := .bool false) rfl
  have c2 := HX1.out.cell 2 (v := .slice ia ni icap) rfl
  clear hb
  go_wp2_with fail
  try rw [e0]
  have HB2 := HB1
  have HX2 := HX1
  clear e0 c0 c1 c2 z1 z2
  go_loopw [3, 6] (fun ov iv wr => RelRD w L2 FD nd w.heap.size #[.string (bs N), .bool false, .slice ia ni icap, .slice da nd dcap] ov iv wr) (fun _ iv _ => nd - (Lib.intOf iv).toNat)
  case atStart => exact ⟨0, Nat.zero_le _, rfl, by simp only [catL, List.append_nil], HX2.out, HB2.out⟩
  case round =>
    obtain ⟨j, hj, rfl, rfl, hbx, hbel⟩ := hrel
    have HB3 := Lib.hid hbel
    have HX3 := Lib.hid hbx
    have c3 := hbx.cell 3 (v := .slice da nd dcap) rfl
    clear hbel hbx
    by_cases hjl : j < nd
    · have p3 : decide ((j : Int) < (nd : Int)) = true := decide_eq_true (by omega)
      have p3n : decide (j < nd) = true := decide_eq_true hjl
      have q4 : IntKind.i64.wrap ((j : Int) + 1) = ((j + 1 : Nat) : Int) := wrap_succ hjl hnd
      obtain ⟨gx, ox, hix, hgx, hrd⟩ := dRow_read (HRD.out _ HB3.out).1 hjl
      have hsz3 := HB3.out.size
      have HBI := Lib.hid (show B ≤ w.heap.size from hB)
      have h15 := (one_tcells ((HRD.out _ HB3.out).2 j hjl).2).1
      have hFj := HFD.out j
      have HTT := RT j hjl
      obtain ⟨x, hx⟩ : ∃ x, df j = x := ⟨_, rfl⟩
      rw [hx] at hrd hFj HTT h15
      clear hx
      obtain ⟨dn, dt⟩ := x
      obtain ⟨DN, hDN⟩ : ∃ DN, dn.data.toList = DN := ⟨_, rfl⟩
      obtain rfl : dn = bs DN := by rw [← hDN, bs_data]
      obtain ⟨v0, v1, v2, v3, v4, v5, v6, v7, v8, v9, v10, v11, v12, v13, v14, hcs⟩ := list15n dt.cells h15
      have hSa : ∀ W' : World, W'.heap[gx]? = wr.heap[gx]? → (W'.cell? ⟨gx, ox, none⟩ = some (.string (bs DN)) ∧ W'.cell? ⟨gx, ox + 1, none⟩ = some v0 ∧ W'.cell? ⟨gx, ox + 1 + 1, none⟩ = some v1 ∧ W'.cell? ⟨gx, ox + 1 + 2, none⟩ = some v2 ∧ W'.cell? ⟨gx, ox + 1 + 3, none⟩ = some v3 ∧ W'.cell? ⟨gx, ox + 1 + 4, none⟩ = some v4 ∧ W'.cell? ⟨gx, ox + 1 + 5, none⟩ = some v5 ∧ W'.cell? ⟨gx, ox + 1 + 6, none⟩ = some v6 ∧ W'.cell? ⟨gx, ox + 1 + 7, none⟩ = some v7 ∧ W'.cell? ⟨gx, ox + 1 + 8, none⟩ = some v8 ∧ W'.cell? ⟨gx, ox + 1 + 9, none⟩ = some v9 ∧ W'.cell? ⟨gx, ox + 1 + 10, none⟩ = some v10 ∧ W'.cell? ⟨gx, ox + 1 + 11, none⟩ = some v11 ∧ W'.cell? ⟨gx, ox + 1 + 12, none⟩ = some v12 ∧ W'.cell? ⟨gx, ox + 1 + 13, none⟩ = some v13 ∧ W'.cell? ⟨gx, ox + 1 + 14, none⟩ = some v14) := fun W' hW => by
        have h1 := range_dt (hrd W' hW)
        dsimp only at h1
        rw [hcs] at h1
        exact ⟨hrd W' hW 0 _ rfl, h1 0 _ rfl, h1 1 _ rfl, h1 2 _ rfl, h1 3 _ rfl, h1 4 _ rfl, h1 5 _ rfl, h1 6 _ rfl, h1 7 _ rfl, h1 8 _ rfl, h1 9 _ rfl, h1 10 _ rfl, h1 11 _ rfl, h1 12 _ rfl, h1 13 _ rfl, h1 14 _ rfl⟩
      have HSW := Lib.hid (fun (W' : World) (hb : Below wr.heap.size wr W') => And.intro ((HX3.out.below hb HX3.out.lt).cell 3 (v := .slice da nd dcap) rfl) (hSa W' (hb.block gx (by omega))))
      have HTX := Lib.hid (show ∀ W' : World, Below w.heap.size w W' → Calls Tryz.prog 25 #[.agg #[v0, v1, v2, v3, v4, v5, v6, v7, v8, v9, v10, v11, v12, v13, v14]] W' fun e w' => e = .returned (.string (bs dt.txt)) ∧ Below W'.heap.size W' w' from fun W' hb => by have h1 := HTT W' hb; dsimp only at h1; rw [hcs] at h1; exact h1)
      have HBd := Lib.hid (Below.drew (Below.refl wr.heap.size wr))
      have HS0 := Lib.hid (HSW.out _ HBd.out)
      obtain ⟨T, hT⟩ : ∃ T, dt.txt = T := ⟨_, rfl⟩
      rw [hT] at HTX
      have hFk : FD j = DN ++ ([32, 58, 58, 61, 32] ++ (T ++ [10])) := by rw [hFj, ← hT]; show (bs DN).data.toList ++ _ = _; rw [bs_list]
      have hlj : (L2 ++ catL FD j).length + (FD j).length + 10 ≤ 2000000000 := by
        have h1 := catL_mono (f := FD) (n := nd) (i := j + 1) (by omega)
        have h2 := HLE.out
        simp only [catL, List.length_append] at h1 ⊢
        omega
      have hlk : (L2 ++ catL FD j).length + DN.length + T.length + 16 ≤ 2000000000 := by
        rw [hFk] at hlj
        simp only [List.length_append, List.length_cons, List.length_nil] at hlj ⊢
        omega
      obtain ⟨L3, hL3⟩ : ∃ L3, L2 ++ catL FD j = L3 := ⟨_, rfl⟩
      have e3 : bs L3 ++ bs DN ++ (⟨#[32, 58, 58, 61, 32]⟩ : ByteArray) ++ bs T ++ (⟨#[10]⟩ : ByteArray) = bs (L2 ++ catL FD (j + 1)) := by
        show bs L3 ++ bs DN ++ bs [32, 58, 58, 61, 32] ++ bs T ++ bs [10] = bs (L2 ++ (catL FD j ++ FD j))
        rw [hFk, ← List.append_assoc L2, hL3]
        simp only [bs_append, List.append_assoc]
      rw [hL3] at hlk ⊢
      have HE3 := Lib.hid e3
      have u1 : ¬ 9223372036854775807 < (bs L3).size + (bs DN).size := by rw [bs_size, bs_size]; omega
      have u2 : ¬ 9223372036854775807 < (bs L3).size + (bs DN).size + 5 := by rw [bs_size, bs_size]; omega
      have u3 : ¬ 9223372036854775807 < (bs L3).size + (bs DN).size + 5 + (bs T).size := by rw [bs_size, bs_size, bs_size]; omega
      have u4 : ¬ 9223372036854775807 < (bs L3).size + (bs DN).size + 5 + (bs T).size + 1 := by rw [bs_size, bs_size, bs_size]; omega
      clear hrd hSa hcs h15 hFj HTT hT hFk hlj hlk hL3 e3 hDN
      go_wp2_with fail
      clear c3
      go_region_held3 (fun w' => w'.cell? ⟨w.heap.size, 3, none⟩ = some (.slice da nd dcap) ∧ w'.cell? ⟨gx, ox, none⟩ = some (.string (bs DN)) ∧ w'.cell? ⟨gx, ox + 1, none⟩ = some v0 ∧ w'.cell? ⟨gx, ox + 1 + 1, none⟩ = some v1 ∧ w'.cell? ⟨gx, ox + 1 + 2, none⟩ = some v2 ∧ w'.cell? ⟨gx, ox + 1 + 3, none⟩ = some v3 ∧ w'.cell? ⟨gx, ox + 1 + 4, none⟩ = some v4 ∧ w'.cell? ⟨gx, ox + 1 + 5, none⟩ = some v5 ∧ w'.cell? ⟨gx, ox + 1 + 6, none⟩ = some v6 ∧ w'.cell? ⟨gx, ox + 1 + 7, none⟩ = some v7 ∧ w'.cell? ⟨gx, ox + 1 + 8, none⟩ = some v8 ∧ w'.cell? ⟨gx, ox + 1 + 9, none⟩ = some v9 ∧ w'.cell? ⟨gx, ox + 1 + 10, none⟩ = some v10 ∧ w'.cell? ⟨gx, ox + 1 + 11, none⟩ = some v11 ∧ w'.cell? ⟨gx, ox + 1 + 12, none⟩ = some v12 ∧ w'.cell? ⟨gx, ox + 1 + 13, none⟩ = some v13 ∧ w'.cell? ⟨gx, ox + 1 + 14, none⟩ = some v14) (first | with_reducible exact HS5.out | with_reducible exact HS0.out) (first
        | (go_at_call 25; refine (HTX.out _ (HB3.out.trans (HBd.out.mono hsz3))).mono ?_; rintro e w5 ⟨rfl, hb⟩; have HB5 := Lib.hid (HBd.out.trans (hb.mono HBd.out.size)); have HS5 := Lib.hid (HSW.out w5 HB5.out); clear hb))
      all_goals go_wp2_with fail
      all_goals exact ⟨⟨j + 1, hjl, rfl, by rw [HE3.out], HX3.out.below HB5.out HX3.out.lt, HB3.out.trans (HB5.out.mono hsz3)⟩, by simp only [Lib.intOf]; omega⟩
    · have p3 : decide ((j : Int) < (nd : Int)) = false := decide_eq_false (by omega)
      have p3n : decide (j < nd) = false := decide_eq_false hjl
      obtain rfl : j = nd := by omega
      have v9 : ¬ 9223372036854775807 < (bs (L2 ++ catL FD j)).size + 4 := by rw [bs_size, List.length_append]; have := HLE.out; omega
      have e9 : bs (L2 ++ catL FD j) ++ (⟨#[69, 78, 68, 10]⟩ : ByteArray) = bs (L2 ++ (catL FD j ++ [69, 78, 68, 10])) := by
        show bs _ ++ bs [69, 78, 68, 10] = _
        rw [bs_append, List.append_assoc]
      have HE9 := Lib.hid e9
      clear e9
      go_wp2_with fail
      go_ret
      refine ⟨?_, HB3.out⟩
      rw [HTXT.out, ← HE9.out]
      rfl
end Go.Proofs.YtgmnojnalkhepaaGreatDoor
