/-
  A bundle of texts, one behind the other: ShNT, ShNT2.
-/
import Derived.Test.YtgmnojnalkhepaaGreatDoorKH
import Derived.Test.YtgmnojnalkhepaaGreatDoorKF
import Derived.Test.YtgmnojnalkhepaaGreatDoorJH
/-
  The document's ModuleText.
-/
namespace Go.Proofs.YtgmnojnalkhepaaGreatDoor
open Go.RowKit
set_option linter.unusedVariables false
set_option linter.unusedSimpArgs false
set_option maxRecDepth 100000

/-- the sum so far, a number, nothing made but beneath -/
def RelRI (L : List UInt8) (f : Nat → List UInt8) (n : Nat) (W : World) (ov iv : Value) (wr : World) : Prop :=
  ∃ i : Nat, i ≤ n ∧ iv = .int .i64 (i : Nat) ∧ ov = .string (bs (L ++ catL f i)) ∧ wr = W
theorem list15n {α : Type} : ∀ (l : List α), l.length = 15 → ∃ v0 v1 v2 v3 v4 v5 v6 v7 v8 v9 v10 v11 v12 v13 v14, l = [v0, v1, v2, v3, v4, v5, v6, v7, v8, v9, v10, v11, v12, v13, v14]
  | [v0, v1, v2, v3, v4, v5, v6, v7, v8, v9, v10, v11, v12, v13, v14], _ => ⟨v0, v1, v2, v3, v4, v5, v6, v7, v8, v9, v10, v11, v12, v13, v14, rfl⟩
theorem sum2 (X A : List UInt8) (S : ByteArray) : bs X ++ bs A ++ S = bs (X ++ (A ++ S.data.toList)) := by
  conv => lhs; rhs; rw [← bs_data S]
  rw [bs_append, bs_append, List.append_assoc]
theorem sum3 (X A B : List UInt8) (S : ByteArray) : bs X ++ bs A ++ bs B ++ S = bs (X ++ (A ++ (B ++ S.data.toList))) := by
  conv => lhs; rhs; rw [← bs_data S]
  rw [bs_append, bs_append, bs_append]
  simp only [List.append_assoc]
def RelRD (w : World) (L : List UInt8) (f : Nat → List UInt8) (n : Nat) (g : Nat) (cs : Array Value) (ov iv : Value) (wr : World) : Prop :=
  ∃ i : Nat, i ≤ n ∧ iv = .int .i64 (i : Nat) ∧ ov = .string (bs (L ++ catL f i)) ∧ Bx wr g cs 25 ∧ Below w.heap.size w wr
set_option maxHeartbeats 8000000 in
theorem rModuleText_t1 (name : ByteArray) (ia : Option Addr) (ni icap : Nat) (im : Nat → IM) (da : Option Addr) (nd dcap : Nat) (df : Nat → DF) (B : Nat) (w : World) (hm : MIn B w (MT.mk name true ia ni icap im da nd dcap df)) (hB : B ≤ w.heap.size) (hw : (MT.mk name true ia ni icap im da nd dcap df).wt ≤ 2000000) (hok : (MT.mk name true ia ni icap im da nd dcap df).ok = true) (hi0 : 0 < ni)
    (RT : ∀ j, j < nd → ∀ W, Below w.heap.size w W → Calls Tryz.prog 25 #[.agg (df j).t.cells.toArray] W fun e w' => e = .returned (.string (bs (df j).t.txt)) ∧ Below W.heap.size W w') :
    Calls Tryz.prog 9 #[.agg #[.string name, .bool true, .slice ia ni icap, .slice da nd dcap]] w fun e w' => e = .returned (.string (bs (MT.mk name true ia ni icap im da nd dcap df).txt)) ∧ Below w.heap.size w w' := by
  have HOK := Lib.hid (fun (W : World) (hb : Below w.heap.size w W) => hok ▸ rModule_ok (MT.mk name true ia ni icap im da nd dcap df) B W (hm.below (hb.mono hB) (Nat.le_refl _)) (Nat.le_trans hB hb.size))
  have hq := (MT.ok_text _ hm hw hok)
  have HX := Lib.hid (Bx.new w #[.string name, .bool true, .slice ia ni icap, .slice da nd dcap] 25)
  have HB0 := Lib.hid ((Below.refl w.heap.size w).alloc (Nat.le_refl _) (.cells #[.string name, .bool true, .slice ia ni icap, .slice da nd dcap] 25))
  have hns : name.size ≤ 2000000 := by unfold MT.wt at hw; dsimp only at hw; omega
  have HRI := Lib.hid (fun (W : World) (hb : Below w.heap.size w W) => And.intro (hm.below (hb.mono hB) (Nat.le_refl _)).2.1 (Nat.le_trans hB hb.size))
  have HRD := Lib.hid (fun (W : World) (hb : Below w.heap.size w W) => (hm.below (hb.mono hB) (Nat.le_refl _)).2.2)
  obtain ⟨FD, hFD⟩ : ∃ F, (fun i => (df i).txt) = F := ⟨_, rfl⟩
  have HFD := Lib.hid (show ∀ i, FD i = (df i).txt from fun i => by rw [← hFD])
  have hnd : nd ≤ 9223372036854775807 := by have h1 := hm.2.2.1.1; have h2 := hm.2.2.1.2.1; dsimp only at h1 h2; omega
  obtain ⟨FI, hFI⟩ : ∃ F, (fun i => (im i).txt) = F := ⟨_, rfl⟩
  have HFI := Lib.hid (show ∀ i, FI i = (im i).txt from fun i => by rw [← hFI])
  obtain ⟨N, hN⟩ : ∃ N, name.data.toList = N := ⟨_, rfl⟩
  obtain rfl : name = bs N := by rw [← hN, bs_data]
  have HLT := Lib.hid (show N.length + (catL FI ni).length + 100 ≤ 1000000000 by
    have h1 := hq.2
    unfold MT.txt hdT impT at h1
    dsimp only at h1
    rw [if_pos hi0, hFI, hN] at h1
    simp only [List.length_append] at h1
    omega)
  have HLE := Lib.hid (show N.length + (catL FI ni).length + (catL FD nd).length + 100 ≤ 1000000000 by
    have h1 := hq.2
    unfold MT.txt hdT impT at h1
    dsimp only at h1
    rw [if_pos hi0, hFI, hFD, bs_list] at h1
    simp only [List.length_append] at h1
    omega)
  have hni : ni ≤ 9223372036854775807 := by have h1 := hm.2.1.1.1; have h2 := hm.2.1.1.2.1; dsimp only at h1 h2; omega
  have z1 : ¬ 9223372036854775807 < (bs N).size + 12 := by omega
  have z2 : ¬ 9223372036854775807 < (bs N).size + 12 + 15 := by omega
  have z3 : ¬ 9223372036854775807 < (bs N).size + 12 + 15 + 11 := by omega
  have z4 : ¬ 9223372036854775807 < (bs N).size + 12 + 15 + 11 + 7 := by omega
  have p1 : decide ((0 : Int) < (ni : Int)) = true := decide_eq_true (by omega)
  have p1n : decide (0 < ni) = true := decide_eq_true (by omega)
  simp only [MT.cells] at HOK
  go_enter Tryz.func9, Tryz.ntmps9
  go_wp2_with fail
  refine (HOK.out _ HB0.out).mono ?_
  rintro e w1 ⟨rfl, hb⟩
  have HB1 := Lib.hid (HB0.out.trans (hb.mono HB0.out.size))
  have HX1 := Lib.hid (HX.out.below hb HX.out.lt)
  have c0 := HX1.out.cell 0 (v := .string (bs N)) rfl
  have c1 := HX1.out.cell 1 (v := .bool true) rfl
  have c2 := HX1.out.cell 2 (v := .slice ia ni icap) rfl
  clear hb
  go_wp2_with fail
  have HR := Lib.hid (HRI.out w1 HB1.out)
  obtain ⟨L0, hL0⟩ : ∃ L0, N ++ ([32, 68, 69, 70, 73, 78, 73, 84, 73, 79, 78, 83] ++ ([32, 65, 85, 84, 79, 77, 65, 84, 73, 67, 32, 84, 65, 71, 83] ++ ([32, 58, 58, 61, 32, 66, 69, 71, 73, 78, 10] ++ [73, 77, 80, 79, 82, 84, 83]))) = L0 := ⟨_, rfl⟩
  have e0 : bs N ++ (⟨#[32, 68, 69, 70, 73, 78, 73, 84, 73, 79, 78, 83]⟩ : ByteArray) ++ (⟨#[32, 65, 85, 84, 79, 77, 65, 84, 73, 67, 32, 84, 65, 71, 83]⟩ : ByteArray) ++ (⟨#[32, 58, 58, 61, 32, 66, 69, 71, 73, 78, 10]⟩ : ByteArray) ++ (⟨#[73, 77, 80, 79, 82, 84, 83]⟩ : ByteArray) = bs L0 := by
    rw [← hL0]
    show bs N ++ bs [32, 68, 69, 70, 73, 78, 73, 84, 73, 79, 78, 83] ++ bs [32, 65, 85, 84, 79, 77, 65, 84, 73, 67, 32, 84, 65, 71, 83] ++ bs [32, 58, 58, 61, 32, 66, 69, 71, 73, 78, 10] ++ bs [73, 77, 80, 79, 82, 84, 83] = _
    simp only [bs_append, List.append_assoc]
  have hl0 : L0.length = N.length + 45 := by rw [← hL0]; simp
  rw [e0]
  go_loopw [3, 4] (fun ov iv wr => RelRI L0 FI ni w1 ov iv wr) (fun _ iv _ => ni - (Lib.intOf iv).toNat)
  case atStart => exact ⟨0, Nat.zero_le _, rfl, by simp only [catL, List.append_nil], rfl⟩
  case round =>
    obtain ⟨i, hi, rfl, rfl, rfl⟩ := hrel
    by_cases hlt : i < ni
    · have q2 : decide ((i : Int) < (ni : Int)) = true := decide_eq_true (by omega)
      have q2n : decide (i < ni) = true := decide_eq_true hlt
      have q3 : IntKind.i64.wrap ((i : Int) + 1) = ((i + 1 : Nat) : Int) := wrap_succ hlt hni
      obtain ⟨gx, ox, hix, hgx, hrd⟩ := iRow_read HR.out.1.1 hlt
      obtain ⟨k0, k1⟩ := hrd wr rfl
      have hsl := HR.out.1.2 i hlt
      have hFi := HFI.out i
      obtain ⟨x, hx⟩ : ∃ x, im i = x := ⟨_, rfl⟩
      rw [hx] at k0 k1 hsl hFi
      clear hrd hx
      obtain ⟨⟨na, nn, nc, nf⟩, fr⟩ := x
      have hFj : FI i = catL (cms nf) nn ++ ([32, 70, 82, 79, 77, 32] ++ fr.data.toList) := hFi
      have hll : L0.length + (catL FI i).length + (FI i).length + 55 ≤ 1000000000 := by
        have h1 := catL_mono (f := FI) (n := ni) (i := i + 1) (by omega)
        have h2 := HLT.out
        simp only [catL, List.length_append] at h1
        omega
      have k0' : wr.cell? ⟨gx, ox, none⟩ = some (.slice na nn nc) := k0
      have k1' : wr.cell? ⟨gx, ox + 1, none⟩ = some (.string fr) := k1
      obtain ⟨L1, hL1⟩ : ∃ L1, L0 ++ catL FI i = L1 := ⟨_, rfl⟩
      have hl1 : L1.length + (catL (cms nf) nn).length + 6 + fr.size + 55 ≤ 1000000000 := by
        have e1 : fr.data.toList.length = fr.size := Array.length_toList
        rw [← hL1, List.length_append]
        rw [hFj, List.length_append, List.length_append, e1] at hll
        simp only [List.length_cons, List.length_nil] at hll
        omega
      rw [hL1]
      have HSL := Lib.hid (show RowAt B wr na nn nc 1 (fun k => [.string (nf k)]) from hsl.1.1)
      have hnn : nn ≤ 9223372036854775807 := by have h1 := HSL.out.1; have h2 := HSL.out.2.1; omega
      clear k0 k1 hsl hFi hll
      go_wp2_with fail
      go_loopw [3, 5] (fun ov kv wr' => RelRI L1 (cms nf) nn wr ov kv wr') (fun _ kv _ => nn - (Lib.intOf kv).toNat)
      case atStart => exact ⟨0, Nat.zero_le _, rfl, by simp only [catL, List.append_nil], rfl⟩
      case round =>
        obtain ⟨k, hk, rfl, rfl, rfl⟩ := hrel
        by_cases hkl : k < nn
        · have p2 : decide ((k : Int) < (nn : Int)) = true := decide_eq_true (by omega)
          have p2n : decide (k < nn) = true := decide_eq_true hkl
          have q5 : IntKind.i64.wrap ((k : Int) + 1) = ((k + 1 : Nat) : Int) := wrap_succ hkl hnn
          obtain ⟨g1, o1, hix1, hg1, hrd1⟩ := HSL.out.read 35 9 Tryz.underlying35 (by kernel_rfl) Tryz.sizeOf9 hkl
          have y0 : wr.cell? ⟨g1, o1, none⟩ = some (.string (nf k)) := hrd1 wr rfl 0 _ rfl
          obtain ⟨S, hS⟩ : ∃ S, nf k = S := ⟨_, rfl⟩
          have hc := catL_mono (f := cms nf) (n := nn) (i := k + 1) (by omega)
          have hcm : cms nf k = (if 0 < k then [44] else []) ++ (32 :: S.data.toList) := by rw [← hS]; rfl
          have eS : S.data.toList.length = S.size := Array.length_toList
          rw [hS] at y0
          clear hrd1 hS
          obtain ⟨O, hO⟩ : ∃ O, bs (L1 ++ catL (cms nf) k) = O := ⟨_, rfl⟩
          have zO : O.size = L1.length + (catL (cms nf) k).length := by rw [← hO, bs_size, List.length_append]
          rcases Nat.eq_zero_or_pos k with h0 | h0
          · subst h0
            have hc2 : (catL (cms nf) (0 + 1)).length = (catL (cms nf) 0).length + (1 + S.size) := by simp only [catL, List.length_append]; rw [hcm]; simp; omega
            have v1 : ¬ 9223372036854775807 < O.size + 1 := by omega
            have v2 : ¬ 9223372036854775807 < O.size + 1 + S.size := by omega
            have e1 : O ++ (⟨#[32]⟩ : ByteArray) ++ S = bs (L1 ++ catL (cms nf) 1) := by
              rw [← hO]
              refine (sum2 _ [32] S).trans (congrArg bs ?_)
              show _ = L1 ++ (catL (cms nf) 0 ++ cms nf 0)
              rw [hcm]
              simp
            rw [hO]
            clear hc hcm hO zO eS hc2
            have hix2 : ∀ w, (Instr.indexAt 35 (.slice na nn nc) (.int .i64 0)).run Tryz.prog w = .ok (.pointer (some ⟨g1, o1, none⟩)) w := hix1
            have p3 : decide ((0 : Int) < (nn : Int)) = true := decide_eq_true (by omega)
            have p3n : decide (0 < nn) = true := decide_eq_true hkl
            go_wp2_with fail
            go_roundw
            case rel => exact ⟨1, hkl, rfl, by rw [← e1], rfl⟩
            case measure => simp only [Lib.intOf]; omega
          · have p4 : decide ((0 : Int) < (k : Int)) = true := decide_eq_true (by omega)
            have p4n : decide (0 < k) = true := decide_eq_true h0
            rw [if_pos h0] at hcm
            have hc2 : (catL (cms nf) (k + 1)).length = (catL (cms nf) k).length + (2 + S.size) := by simp only [catL, List.length_append]; rw [hcm]; simp; omega
            have v1 : ¬ 9223372036854775807 < O.size + 1 := by omega
            have v2 : ¬ 9223372036854775807 < O.size + 1 + 1 := by omega
            have v3 : ¬ 9223372036854775807 < O.size + 1 + 1 + S.size := by omega
            have e1 : O ++ (⟨#[44]⟩ : ByteArray) ++ (⟨#[32]⟩ : ByteArray) ++ S = bs (L1 ++ catL (cms nf) (k + 1)) := by
              rw [← hO]
              refine (sum3 _ [44] [32] S).trans (congrArg bs ?_)
              show _ = L1 ++ (catL (cms nf) k ++ cms nf k)
              rw [hcm]
              simp
            rw [hO]
            clear hc hcm hO zO eS hc2
            go_wp2_with fail
            go_roundw
            case rel => exact ⟨k + 1, hkl, rfl, by rw [← e1], rfl⟩
            case measure => simp only [Lib.intOf]; omega
        · have p2 : decide ((k : Int) < (nn : Int)) = false := decide_eq_false (by omega)
          have p2n : decide (k < nn) = false := decide_eq_false hkl
          obtain rfl : k = nn := by omega
          obtain ⟨O, hO⟩ : ∃ O, bs (L1 ++ catL (cms nf) k) = O := ⟨_, rfl⟩
          have zO : O.size = L1.length + (catL (cms nf) k).length := by rw [← hO, bs_size, List.length_append]
          have v1 : ¬ 9223372036854775807 < O.size + 6 := by omega
          have v2 : ¬ 9223372036854775807 < O.size + 6 + fr.size := by omega
          have e1 : O ++ (⟨#[32, 70, 82, 79, 77, 32]⟩ : ByteArray) ++ fr = bs (L0 ++ catL FI (i + 1)) := by
            rw [← hO]
            refine (sum2 _ [32, 70, 82, 79, 77, 32] fr).trans (congrArg bs ?_)
            show _ = L0 ++ (catL FI i ++ FI i)
            rw [hFj, ← hL1]
            simp only [List.append_assoc]
          rw [hO]
          clear hO zO
          go_wp2_with fail
          go_roundw
          case rel => exact ⟨i + 1, hlt, rfl, by rw [← e1], rfl⟩
          case measure => simp only [Lib.intOf]; omega
    · have q2 : decide ((i : Int) < (ni : Int)) = false := decide_eq_false (by omega)
      have q2n : decide (i < ni) = false := decide_eq_false hlt
      obtain rfl : i = ni := by omega
      obtain ⟨O, hO⟩ : ∃ O, bs (L0 ++ catL FI i) = O := ⟨_, rfl⟩
      have zO : O.size = L0.length + (catL FI i).length := by rw [← hO, bs_size, List.length_append]
      have v1 : ¬ 9223372036854775807 < O.size + 2 := by have := HLT.out; omega
      rw [hO]
      go_wp2_with fail
      obtain ⟨L2, hL2⟩ : ∃ L2, L0 ++ (catL FI i ++ [59, 10]) = L2 := ⟨_, rfl⟩
      have e2 : O ++ (⟨#[59, 10]⟩ : ByteArray) = bs L2 := by
        rw [← hO, ← hL2]
        show bs _ ++ bs [59, 10] = _
        simp only [bs_append, List.append_assoc]
      rw [e2]
      have hl2 : L2.length = L0.length + (catL FI i).length + 2 := by rw [← hL2]; simp; omega
      have HB2 := HB1
      have HX2 := HX1
      have HTXT := Lib.hid (show (MT.mk (bs N) true ia i icap im da nd dcap df).txt = L2 ++ (catL FD nd ++ [69, 78, 68, 10]) by
        rw [← hL2, ← hL0, ← hFI, ← hFD]
        unfold MT.txt hdT impT
        dsimp only
        rw [if_pos hi0, bs_list]
        simp)
      clear hL0 e0 c0 c1 c2
      obtain ⟨WA, hWA⟩ : ∃ W, wr = W := ⟨_, rfl⟩
      rw [hWA]
      rw [hWA] at HB2 HX2
      go_loopw [3, 6] (fun ov iv wr => RelRD w L2 FD nd w.heap.size #[.string (bs N), .bool true, .slice ia i icap, .slice da nd dcap] ov iv wr) (fun _ iv _ => nd - (Lib.intOf iv).toNat)
      case atStart => exact ⟨0, Nat.zero_le _, rfl, by simp only [catL, List.append_nil], HX2.out, HB2.out⟩
      case round =>
        obtain ⟨j, hj, rfl, rfl, hbx, hbel⟩ := hrel
        have HB3 := Lib.hid hbel
        have HX3 := Lib.hid hbx
        have c3 := hbx.cell 3 (v := .slice da nd dcap) rfl
        clear hbel hbx
        by_cases hjl : j < nd
        · have p3 : decide ((j : Int) < (nd : Int)) = true := decide_eq_true (by omega)
          have p3n : decide (j < nd) = true := decide_eq_true hjl
          have q4 : IntKind.i64.wrap ((j : Int) + 1) = ((j + 1 : Nat) : Int) := wrap_succ hjl hnd
          obtain ⟨gx, ox, hix, hgx, hrd⟩ := dRow_read (HRD.out _ HB3.out).1 hjl
          have hsz3 := HB3.out.size
          have HBI := Lib.hid (show B ≤ w.heap.size from hB)
          have h15 := (one_tcells ((HRD.out _ HB3.out).2 j hjl).2).1
          have hFj := HFD.out j
          have HTT := RT j hjl
          obtain ⟨x, hx⟩ : ∃ x, df j = x := ⟨_, rfl⟩
          rw [hx] at hrd hFj HTT h15
          clear hx
          obtain ⟨dn, dt⟩ := x
          obtain ⟨DN, hDN⟩ : ∃ DN, dn.data.toList = DN := ⟨_, rfl⟩
          obtain rfl : dn = bs DN := by rw [← hDN, bs_data]
          obtain ⟨v0, v1, v2, v3, v4, v5, v6, v7, v8, v9, v10, v11, v12, v13, v14, hcs⟩ := list15n dt.cells h15
          have hSa : ∀ W' : World, W'.heap[gx]? = wr.heap[gx]? → (W'.cell? ⟨gx, ox, none⟩ = some (.string (bs DN)) ∧ W'.cell? ⟨gx, ox + 1, none⟩ = some v0 ∧ W'.cell? ⟨gx, ox + 1 + 1, none⟩ = some v1 ∧ W'.cell? ⟨gx, ox + 1 + 2, none⟩ = some v2 ∧ W'.cell? ⟨gx, ox + 1 + 3, none⟩ = some v3 ∧ W'.cell? ⟨gx, ox + 1 + 4, none⟩ = some v4 ∧ W'.cell? ⟨gx, ox + 1 + 5, none⟩ = some v5 ∧ W'.cell? ⟨gx, ox + 1 + 6, none⟩ = some v6 ∧ W'.cell? ⟨gx, ox + 1 + 7, none⟩ = some v7 ∧ W'.cell? ⟨gx, ox + 1 + 8, none⟩ = some v8 ∧ W'.cell? ⟨gx, ox + 1 + 9, none⟩ = some v9 ∧ W'.cell? ⟨gx, ox + 1 + 10, none⟩ = some v10 ∧ W'.cell? ⟨gx, ox + 1 + 11, none⟩ = some v11 ∧ W'.cell? ⟨gx, ox + 1 + 12, none⟩ = some v12 ∧ W'.cell? ⟨gx, ox + 1 + 13, none⟩ = some v13 ∧ W'.cell? ⟨gx, ox + 1 + 14, none⟩ = some v14) := fun W' hW => by
            have h1 := range_dt (hrd W' hW)
            dsimp only at h1
            rw [hcs] at h1
            exact ⟨hrd W' hW 0 _ rfl, h1 0 _ rfl, h1 1 _ rfl, h1 2 _ rfl, h1 3 _ rfl, h1 4 _ rfl, h1 5 _ rfl, h1 6 _ rfl, h1 7 _ rfl, h1 8 _ rfl, h1 9 _ rfl, h1 10 _ rfl, h1 11 _ rfl, h1 12 _ rfl, h1 13 _ rfl, h1 14 _ rfl⟩
          have HSW := Lib.hid (fun (W' : World) (hb : Below wr.heap.size wr W') => And.intro ((HX3.out.below hb HX3.out.lt).cell 3 (v := .slice da nd dcap) rfl) (hSa W' (hb.block gx (by omega))))
          have HTX := Lib.hid (show ∀ W' : World, Below w.heap.size w W' → Calls Tryz.prog 25 #[.agg #[v0, v1, v2, v3, v4, v5, v6, v7, v8, v9, v10, v11, v12, v13, v14]] W' fun e w' => e = .returned (.string (bs dt.txt)) ∧ Below W'.heap.size W' w' from fun W' hb => by have h1 := HTT W' hb; dsimp only at h1; rw [hcs] at h1; exact h1)
          have HBd := Lib.hid (Below.drew (Below.refl wr.heap.size wr))
          have HS0 := Lib.hid (HSW.out _ HBd.out)
          obtain ⟨T, hT⟩ : ∃ T, dt.txt = T := ⟨_, rfl⟩
          rw [hT] at HTX
          have hFk : FD j = DN ++ ([32, 58, 58, 61, 32] ++ (T ++ [10])) := by rw [hFj, ← hT]; show (bs DN).data.toList ++ _ = _; rw [bs_list]
          have hlj : (L2 ++ catL FD j).length + (FD j).length + 10 ≤ 2000000000 := by
            have h1 := catL_mono (f := FD) (n := nd) (i := j + 1) (by omega)
            have h2 := HLE.out
            simp only [catL, List.length_append] at h1 ⊢
            omega
          have hlk : (L2 ++ catL FD j).length + DN.length + T.length + 16 ≤ 2000000000 := by
            rw [hFk] at hlj
            simp only [List.length_append, List.length_cons, List.length_nil] at hlj ⊢
            omega
          obtain ⟨L3, hL3⟩ : ∃ L3, L2 ++ catL FD j = L3 := ⟨_, rfl⟩
          have e3 : bs L3 ++ bs DN ++ (⟨#[32, 58, 58, 61, 32]⟩ : ByteArray) ++ bs T ++ (⟨#[10]⟩ : ByteArray) = bs (L2 ++ catL FD (j + 1)) := by
            show bs L3 ++ bs DN ++ bs [32, 58, 58, 61, 32] ++ bs T ++ bs [10] = bs (L2 ++ (catL FD j ++ FD j))
            rw [hFk, ← List.append_assoc L2, hL3]
            simp only [bs_append, List.append_assoc]
          rw [hL3] at hlk ⊢
          have HE3 := Lib.hid e3
          have u1 : ¬ 9223372036854775807 < (bs L3).size + (bs DN).size := by rw [bs_size, bs_size]; omega
          have u2 : ¬ 9223372036854775807 < (bs L3).size + (bs DN).size + 5 := by rw [bs_size, bs_size]; omega
          have u3 : ¬ 9223372036854775807 < (bs L3).size + (bs DN).size + 5 + (bs T).size := by rw [bs_size, bs_size, bs_size]; omega
          have u4 : ¬ 9223372036854775807 < (bs L3).size + (bs DN).size + 5 + (bs T).size + 1 := by rw [bs_size, bs_size, bs_size]; omega
          clear hrd hSa hcs h15 hFj HTT hT hFk hlj hlk hL3 e3 hDN
          go_wp2_with fail
          clear c3
          go_region_held3 (fun w' => w'.cell? ⟨w.heap.size, 3, none⟩ = some (.slice da nd dcap) ∧ w'.cell? ⟨gx, ox, none⟩ = some (.string (bs DN)) ∧ w'.cell? ⟨gx, ox + 1, none⟩ = some v0 ∧ w'.cell? ⟨gx, ox + 1 + 1, none⟩ = some v1 ∧ w'.cell? ⟨gx, ox + 1 + 2, none⟩ = some v2 ∧ w'.cell? ⟨gx, ox + 1 + 3, none⟩ = some v3 ∧ w'.cell? ⟨gx, ox + 1 + 4, none⟩ = some v4 ∧ w'.cell? ⟨gx, ox + 1 + 5, none⟩ = some v5 ∧ w'.cell? ⟨gx, ox + 1 + 6, none⟩ = some v6 ∧ w'.cell? ⟨gx, ox + 1 + 7, none⟩ = some v7 ∧ w'.cell? ⟨gx, ox + 1 + 8, none⟩ = some v8 ∧ w'.cell? ⟨gx, ox + 1 + 9, none⟩ = some v9 ∧ w'.cell? ⟨gx, ox + 1 + 10, none⟩ = some v10 ∧ w'.cell? ⟨gx, ox + 1 + 11, none⟩ = some v11 ∧ w'.cell? ⟨gx, ox + 1 + 12, none⟩ = some v12 ∧ w'.cell? ⟨gx, ox + 1 + 13, none⟩ = some v13 ∧ w'.cell? ⟨gx, ox + 1 + 14, none⟩ = some v14) (first | with_reducible exact HS5.out | with_reducible exact HS0.out) (first
            | (go_at_call 25; refine (HTX.out _ (HB3.out.trans (HBd.out.mono hsz3))).mono ?_; rintro e w5 ⟨rfl, hb⟩; have HB5 := Lib.hid (HBd.out.trans (hb.mono HBd.out.size)); have HS5 := Lib.hid (HSW.out w5 HB5.out); clear hb))
          all_goals go_wp2_with fail
          all_goals exact ⟨⟨j + 1, hjl, rfl, by rw [HE3.out], HX3.out.below HB5.out HX3.out.lt, HB3.out.trans (HB5.out.mono hsz3)⟩, by simp only [Lib.intOf]; omega⟩
        · have p3 : decide ((j : Int) < (nd : Int)) = false := decide_eq_false (by omega)
          have p3n : decide (j < nd) = false := decide_eq_false hjl
          obtain rfl : j = nd := by omega
          have v9 : ¬ 9223372036854775807 < (bs (L2 ++ catL FD j)).size + 4 := by rw [bs_size, List.length_append]; have := HLE.out; omega
          have e9 : bs (L2 ++ catL FD j) ++ (⟨#[69, 78, 68, 10]⟩ : ByteArray) = bs (L2 ++ (catL FD j ++ [69, 78, 68, 10])) := by
            show bs _ ++ bs [69, 78, 68, 10] = _
            rw [bs_append, List.append_assoc]
          have HE9 := Lib.hid e9
          clear e9
          go_wp2_with fail
          go_ret
          refine ⟨?_, HB3.out⟩
          rw [HTXT.out, ← HE9.out]
          rfl
end Go.Proofs.YtgmnojnalkhepaaGreatDoor

/-
  The document's ModuleText: no tags, imports.
-/
namespace Go.Proofs.YtgmnojnalkhepaaGreatDoor
open Go.RowKit
set_option linter.unusedVariables false
set_option linter.unusedSimpArgs false
set_option maxRecDepth 100000

set_option maxHeartbeats 8000000 in
theorem rModuleText_t2 (name : ByteArray) (ia : Option Addr) (ni icap : Nat) (im : Nat → IM) (da : Option Addr) (nd dcap : Nat) (df : Nat → DF) (B : Nat) (w : World) (hm : MIn B w (MT.mk name false ia ni icap im da nd dcap df)) (hB : B ≤ w.heap.size) (hw : (MT.mk name false ia ni icap im da nd dcap df).wt ≤ 2000000) (hok : (MT.mk name false ia ni icap im da nd dcap df).ok = true) (hi0 : 0 < ni)
    (RT : ∀ j, j < nd → ∀ W, Below w.heap.size w W → Calls Tryz.prog 25 #[.agg (df j).t.cells.toArray] W fun e w' => e = .returned (.string (bs (df j).t.txt)) ∧ Below W.heap.size W w') :
    Calls Tryz.prog 9 #[.agg #[.string name, .bool false, .slice ia ni icap, .slice da nd dcap]] w fun e w' => e = .returned (.string (bs (MT.mk name false ia ni icap im da nd dcap df).txt)) ∧ Below w.heap.size w w' := by
  have HOK := Lib.hid (fun (W : World) (hb : Below w.heap.size w W) => hok ▸ rModule_ok (MT.mk name false ia ni icap im da nd dcap df) B W (hm.below (hb.mono hB) (Nat.le_refl _)) (Nat.le_trans hB hb.size))
  have hq := (MT.ok_text _ hm hw hok)
  have HX := Lib.hid (Bx.new w #[.string name, .bool false, .slice ia ni icap, .slice da nd dcap] 25)
  have HB0 := Lib.hid ((Below.refl w.heap.size w).alloc (Nat.le_refl _) (.cells #[.string name, .bool false, .slice ia ni icap, .slice da nd dcap] 25))
  have hns : name.size ≤ 2000000 := by unfold MT.wt at hw; dsimp only at hw; omega
  have HRI := Lib.hid (fun (W : World) (hb : Below w.heap.size w W) => And.intro (hm.below (hb.mono hB) (Nat.le_refl _)).2.1 (Nat.le_trans hB hb.size))
  have HRD := Lib.hid (fun (W : World) (hb : Below w.heap.size w W) => (hm.below (hb.mono hB) (Nat.le_refl _)).2.2)
  obtain ⟨FD, hFD⟩ : ∃ F, (fun i => (df i).txt) = F := ⟨_, rfl⟩
  have HFD := Lib.hid (show ∀ i, FD i = (df i).txt from fun i => by rw [← hFD])
  have hnd : nd ≤ 9223372036854775807 := by have h1 := hm.2.2.1.1; have h2 := hm.2.2.1.2.1; dsimp only at h1 h2; omega
  obtain ⟨FI, hFI⟩ : ∃ F, (fun i => (im i).txt) = F := ⟨_, rfl⟩
  have HFI := Lib.hid (show ∀ i, FI i = (im i).txt from fun i => by rw [← hFI])
  obtain ⟨N, hN⟩ : ∃ N, name.data.toList = N := ⟨_, rfl⟩
  obtain rfl : name = bs N := by rw [← hN, bs_data]
  have HLT := Lib.hid (show N.length + (catL FI ni).length + 100 ≤ 1000000000 by
    have h1 := hq.2
    unfold MT.txt hdT impT at h1
    dsimp only at h1
    rw [if_pos hi0, hFI, hN] at h1
    simp only [List.length_append] at h1
    omega)
  have HLE := Lib.hid (show N.length + (catL FI ni).length + (catL FD nd).length + 100 ≤ 1000000000 by
    have h1 := hq.2
    unfold MT.txt hdT impT at h1
    dsimp only at h1
    rw [if_pos hi0, hFI, hFD, bs_list] at h1
    simp only [List.length_append] at h1
    omega)
  have hni : ni ≤ 9223372036854775807 := by have h1 := hm.2.1.1.1; have h2 := hm.2.1.1.2.1; dsimp only at h1 h2; omega
  have z1 : ¬ 9223372036854775807 < (bs N).size + 12 := by omega
  have z2 : ¬ 9223372036854775807 < (bs N).size + 12 + 11 := by omega
  have z3 : ¬ 9223372036854775807 < (bs N).size + 12 + 11 + 7 := by omega
  have p1 : decide ((0 : Int) < (ni : Int)) = true := decide_eq_true (by omega)
  have p1n : decide (0 < ni) = true := decide_eq_true (by omega)
  simp only [MT.cells] at HOK
  go_enter Tryz.func9, Tryz.ntmps9
  go_wp2_with fail
  refine (HOK.out _ HB0.out).mono ?_
  rintro e w1 ⟨rfl, hb⟩
  have HB1 := Lib.hid (HB0.out.trans (hb.mono HB0.out.size))
  have HX1 := Lib.hid (HX.out.below hb HX.out.lt)
  have c0 := HX1.out.cell 0 (v := .string (bs N)) rfl
  have c1 := HX1.out.cell 1 (v := .bool false) rfl
  have c2 := HX1.out.cell 2 (v := .slice ia ni icap) rfl
  clear hb
  go_wp2_with fail
  have HR := Lib.hid (HRI.out w1 HB1.out)
  obtain ⟨L0, hL0⟩ : ∃ L0, N ++ ([32, 68, 69, 70, 73, 78, 73, 84, 73, 79, 78, 83] ++ ([32, 58, 58, 61, 32, 66, 69, 71, 73, 78, 10] ++ ([73, 77, 80, 79, 82, 84, 83]))) = L0 := ⟨_, rfl⟩
  have e0 : bs N ++ (⟨#[32, 68, 69, 70, 73, 78, 73, 84, 73, 79, 78, 83]⟩ : ByteArray) ++ (⟨#[32, 58, 58, 61, 32, 66, 69, 71, 73, 78, 10]⟩ : ByteArray) ++ (⟨#[73, 77, 80, 79, 82, 84, 83]⟩ : ByteArray) = bs L0 := by
    rw [← hL0]
    show bs N ++ bs [32, 68, 69, 70, 73, 78, 73, 84, 73, 79, 78, 83] ++ bs [32, 58, 58, 61, 32, 66, 69, 71, 73, 78, 10] ++ bs [73, 77, 80, 79, 82, 84, 83] = _
    simp only [bs_append, List.append_assoc]
  have hl0 : L0.length = N.length + 30 := by rw [← hL0]; simp
  rw [e0]
  go_loopw [3, 4] (fun ov iv wr => RelRI L0 FI ni w1 ov iv wr) (fun _ iv _ => ni - (Lib.intOf iv).toNat)
  case atStart => exact ⟨0, Nat.zero_le _, rfl, by simp only [catL, List.append_nil], rfl⟩
  case round =>
    obtain ⟨i, hi, rfl, rfl, rfl⟩ := hrel
    by_cases hlt : i < ni
    · have q2 : decide ((i : Int) < (ni : Int)) = true := decide_eq_true (by omega)
      have q2n : decide (i < ni) = true := decide_eq_true hlt
      have q3 : IntKind.i64.wrap ((i : Int) + 1) = ((i + 1 : Nat) : Int) := wrap_succ hlt hni
      obtain ⟨gx, ox, hix, hgx, hrd⟩ := iRow_read HR.out.1.1 hlt
      obtain ⟨k0, k1⟩ := hrd wr rfl
      have hsl := HR.out.1.2 i hlt
      have hFi := HFI.out i
      obtain ⟨x, hx⟩ : ∃ x, im i = x := ⟨_, rfl⟩
      rw [hx] at k0 k1 hsl hFi
      clear hrd hx
      obtain ⟨⟨na, nn, nc, nf⟩, fr⟩ := x
      have hFj : FI i = catL (cms nf) nn ++ ([32, 70, 82, 79, 77, 32] ++ fr.data.toList) := hFi
      have hll : L0.length + (catL FI i).length + (FI i).length + 55 ≤ 1000000000 := by
        have h1 := catL_mono (f := FI) (n := ni) (i := i + 1) (by omega)
        have h2 := HLT.out
        simp only [catL, List.length_append] at h1
        omega
      have k0' : wr.cell? ⟨gx, ox, none⟩ = some (.slice na nn nc) := k0
      have k1' : wr.cell? ⟨gx, ox + 1, none⟩ = some (.string fr) := k1
      obtain ⟨L1, hL1⟩ : ∃ L1, L0 ++ catL FI i = L1 := ⟨_, rfl⟩
      have hl1 : L1.length + (catL (cms nf) nn).length + 6 + fr.size + 55 ≤ 1000000000 := by
        have e1 : fr.data.toList.length = fr.size := Array.length_toList
        rw [← hL1, List.length_append]
        rw [hFj, List.length_append, List.length_append, e1] at hll
        simp only [List.length_cons, List.length_nil] at hll
        omega
      rw [hL1]
      have HSL := Lib.hid (show RowAt B wr na nn nc 1 (fun k => [.string (nf k)]) from hsl.1.1)
      have hnn : nn ≤ 9223372036854775807 := by have h1 := HSL.out.1; have h2 := HSL.out.2.1; omega
      clear k0 k1 hsl hFi hll
      go_wp2_with fail
      go_loopw [3, 5] (fun ov kv wr' => RelRI L1 (cms nf) nn wr ov kv wr') (fun _ kv _ => nn - (Lib.intOf kv).toNat)
      case atStart => exact ⟨0, Nat.zero_le _, rfl, by simp only [catL, List.append_nil], rfl⟩
      case round =>
        obtain ⟨k, hk, rfl, rfl, rfl⟩ := hrel
        by_cases hkl : k < nn
        · have p2 : decide ((k : Int) < (nn : Int)) = true := decide_eq_true (by omega)
          have p2n : decide (k < nn) = true := decide_eq_true hkl
          have q5 : IntKind.i64.wrap ((k : Int) + 1) = ((k + 1 : Nat) : Int) := wrap_succ hkl hnn
          obtain ⟨g1, o1, hix1, hg1, hrd1⟩ := HSL.out.read 35 9 Tryz.underlying35 (by kernel_rfl) Tryz.sizeOf9 hkl
          have y0 : wr.cell? ⟨g1, o1, none⟩ = some (.string (nf k)) := hrd1 wr rfl 0 _ rfl
          obtain ⟨S, hS⟩ : ∃ S, nf k = S := ⟨_, rfl⟩
          have hc := catL_mono (f := cms nf) (n := nn) (i := k + 1) (by omega)
          have hcm : cms nf k = (if 0 < k then [44] else []) ++ (32 :: S.data.toList) := by rw [← hS]; rfl
          have eS : S.data.toList.length = S.size := Array.length_toList
          rw [hS] at y0
          clear hrd1 hS
          obtain ⟨O, hO⟩ : ∃ O, bs (L1 ++ catL (cms nf) k) = O := ⟨_, rfl⟩
          have zO : O.size = L1.length + (catL (cms nf) k).length := by rw [← hO, bs_size, List.length_append]
          rcases Nat.eq_zero_or_pos k with h0 | h0
          · subst h0
            have hc2 : (catL (cms nf) (0 + 1)).length = (catL (cms nf) 0).length + (1 + S.size) := by simp only [catL, List.length_append]; rw [hcm]; simp; omega
            have v1 : ¬ 9223372036854775807 < O.size + 1 := by omega
            have v2 : ¬ 9223372036854775807 < O.size + 1 + S.size := by omega
            have e1 : O ++ (⟨#[32]⟩ : ByteArray) ++ S = bs (L1 ++ catL (cms nf) 1) := by
              rw [← hO]
              refine (sum2 _ [32] S).trans (congrArg bs ?_)
              show _ = L1 ++ (catL (cms nf) 0 ++ cms nf 0)
              rw [hcm]
              simp
            rw [hO]
            clear hc hcm hO zO eS hc2
            have hix2 : ∀ w, (Instr.indexAt 35 (.slice na nn nc) (.int .i64 0)).run Tryz.prog w = .ok (.pointer (some ⟨g1, o1, none⟩)) w := hix1
            have p3 : decide ((0 : Int) < (nn : Int)) = true := decide_eq_true (by omega)
            have p3n : decide (0 < nn) = true := decide_eq_true hkl
            go_wp2_with fail
            go_roundw
            case rel => exact ⟨1, hkl, rfl, by rw [← e1], rfl⟩
            case measure => simp only [Lib.intOf]; omega
          · have p4 : decide ((0 : Int) < (k : Int)) = true := decide_eq_true (by omega)
            have p4n : decide (0 < k) = true := decide_eq_true h0
            rw [if_pos h0] at hcm
            have hc2 : (catL (cms nf) (k + 1)).length = (catL (cms nf) k).length + (2 + S.size) := by simp only [catL, List.length_append]; rw [hcm]; simp; omega
            have v1 : ¬ 9223372036854775807 < O.size + 1 := by omega
            have v2 : ¬ 9223372036854775807 < O.size + 1 + 1 := by omega
            have v3 : ¬ 9223372036854775807 < O.size + 1 + 1 + S.size := by omega
            have e1 : O ++ (⟨#[44]⟩ : ByteArray) ++ (⟨#[32]⟩ : ByteArray) ++ S = bs (L1 ++ catL (cms nf) (k + 1)) := by
              rw [← hO]
              refine (sum3 _ [44] [32] S).trans (congrArg bs ?_)
              show _ = L1 ++ (catL (cms nf) k ++ cms nf k)
              rw [hcm]
              simp
            rw [hO]
            clear hc hcm hO zO eS hc2
            go_wp2_with fail
            go_roundw
            case rel => exact ⟨k + 1, hkl, rfl, by rw [← e1], rfl⟩
            case measure => simp only [Lib.intOf]; omega
        · have p2 : decide ((k : Int) < (nn : Int)) = false := decide_eq_false (by omega)
          have p2n : decide (k < nn) = false := decide_eq_false hkl
          obtain rfl : k = nn := by omega
          obtain ⟨O, hO⟩ : ∃ O, bs (L1 ++ catL (cms nf) k) = O := ⟨_, rfl⟩
          have zO : O.size = L1.length + (catL (cms nf) k).length := by rw [← hO, bs_size, List.length_append]
          have v1 : ¬ 9223372036854775807 < O.size + 6 := by omega
          have v2 : ¬ 9223372036854775807 < O.size + 6 + fr.size := by omega
          have e1 : O ++ (⟨#[32, 70, 82, 79, 77, 32]⟩ : ByteArray) ++ fr = bs (L0 ++ catL FI (i + 1)) := by
            rw [← hO]
            refine (sum2 _ [32, 70, 82, 79, 77, 32] fr).trans (congrArg bs ?_)
            show _ = L0 ++ (catL FI i ++ FI i)
            rw [hFj, ← hL1]
            simp only [List.append_assoc]
          rw [hO]
          clear hO zO
          go_wp2_with fail
          go_roundw
          case rel => exact ⟨i + 1, hlt, rfl, by rw [← e1], rfl⟩
          case measure => simp only [Lib.intOf]; omega
    · have q2 : decide ((i : Int) < (ni : Int)) = false := decide_eq_false (by omega)
      have q2n : decide (i < ni) = false := decide_eq_false hlt
      obtain rfl : i = ni := by omega
      obtain ⟨O, hO⟩ : ∃ O, bs (L0 ++ catL FI i) = O := ⟨_, rfl⟩
      have zO : O.size = L0.length + (catL FI i).length := by rw [← hO, bs_size, List.length_append]
      have v1 : ¬ 9223372036854775807 < O.size + 2 := by have := HLT.out; omega
      rw [hO]
      go_wp2_with fail
      obtain ⟨L2, hL2⟩ : ∃ L2, L0 ++ (catL FI i ++ [59, 10]) = L2 := ⟨_, rfl⟩
      have e2 : O ++ (⟨#[59, 10]⟩ : ByteArray) = bs L2 := by
        rw [← hO, ← hL2]
        show bs _ ++ bs [59, 10] = _
        simp only [bs_append, List.append_assoc]
      rw [e2]
      have hl2 : L2.length = L0.length + (catL FI i).length + 2 := by rw [← hL2]; simp; omega
      have HB2 := HB1
      have HX2 := HX1
      have HTXT := Lib.hid (show (MT.mk (bs N) false ia i icap im da nd dcap df).txt = L2 ++ (catL FD nd ++ [69, 78, 68, 10]) by
        rw [← hL2, ← hL0, ← hFI, ← hFD]
        unfold MT.txt hdT impT
        dsimp only
        rw [if_pos hi0, bs_list]
        simp)
      clear hL0 e0 c0 c1 c2
      obtain ⟨WA, hWA⟩ : ∃ W, wr = W := ⟨_, rfl⟩
      rw [hWA]
      rw [hWA] at HB2 HX2
      go_loopw [3, 6] (fun ov iv wr => RelRD w L2 FD nd w.heap.size #[.string (bs N), .bool false, .slice ia i icap, .slice da nd dcap] ov iv wr) (fun _ iv _ => nd - (Lib.intOf iv).toNat)
      case atStart => exact ⟨0, Nat.zero_le _, rfl, by simp only [catL, List.append_nil], HX2.out, HB2.out⟩
      case round =>
        obtain ⟨j, hj, rfl, rfl, hbx, hbel⟩ := hrel
        have HB3 := Lib.hid hbel
        have HX3 := Lib.hid hbx
        have c3 := hbx.cell 3 (v := .slice da nd dcap) rfl
        clear hbel hbx
        by_cases hjl : j < nd
        · have p3 : decide ((j : Int) < (nd : Int)) = true := decide_eq_true (by omega)
          have p3n : decide (j < nd) = true := decide_eq_true hjl
          have q4 : IntKind.i64.wrap ((j : Int) + 1) = ((j + 1 : Nat) : Int) := wrap_succ hjl hnd
          obtain ⟨gx, ox, hix, hgx, hrd⟩ := dRow_read (HRD.out _ HB3.out).1 hjl
          have hsz3 := HB3.out.size
          have HBI := Lib.hid (show B ≤ w.heap.size from hB)
          have h15 := (one_tcells ((HRD.out _ HB3.out).2 j hjl).2).1
          have hFj := HFD.out j
          have HTT := RT j hjl
          obtain ⟨x, hx⟩ : ∃ x, df j = x := ⟨_, rfl⟩
          rw [hx] at hrd hFj HTT h15
          clear hx
          obtain ⟨dn, dt⟩ := x
          obtain ⟨DN, hDN⟩ : ∃ DN, dn.data.toList = DN := ⟨_, rfl⟩
          obtain rfl : dn = bs DN := by rw [← hDN, bs_data]
          obtain ⟨v0, v1, v2, v3, v4, v5, v6, v7, v8, v9, v10, v11, v12, v13, v14, hcs⟩ := list15n dt.cells h15
          have hSa : ∀ W' : World, W'.heap[gx]? = wr.heap[gx]? → (W'.cell? ⟨gx, ox, none⟩ = some (.string (bs DN)) ∧ W'.cell? ⟨gx, ox + 1, none⟩ = some v0 ∧ W'.cell? ⟨gx, ox + 1 + 1, none⟩ = some v1 ∧ W'.cell? ⟨gx, ox + 1 + 2, none⟩ = some v2 ∧ W'.cell? ⟨gx, ox + 1 + 3, none⟩ = some v3 ∧ W'.cell? ⟨gx, ox + 1 + 4, none⟩ = some v4 ∧ W'.cell? ⟨gx, ox + 1 + 5, none⟩ = some v5 ∧ W'.cell? ⟨gx, ox + 1 + 6, none⟩ = some v6 ∧ W'.cell? ⟨gx, ox + 1 + 7, none⟩ = some v7 ∧ W'.cell? ⟨gx, ox + 1 + 8, none⟩ = some v8 ∧ W'.cell? ⟨gx, ox + 1 + 9, none⟩ = some v9 ∧ W'.cell? ⟨gx, ox + 1 + 10, none⟩ = some v10 ∧ W'.cell? ⟨gx, ox + 1 + 11, none⟩ = some v11 ∧ W'.cell? ⟨gx, ox + 1 + 12, none⟩ = some v12 ∧ W'.cell? ⟨gx, ox + 1 + 13, none⟩ = some v13 ∧ W'.cell? ⟨gx, ox + 1 + 14, none⟩ = some v14) := fun W' hW => by
            have h1 := range_dt (hrd W' hW)
            dsimp only at h1
            rw [hcs] at h1
            exact ⟨hrd W' hW 0 _ rfl, h1 0 _ rfl, h1 1 _ rfl, h1 2 _ rfl, h1 3 _ rfl, h1 4 _ rfl, h1 5 _ rfl, h1 6 _ rfl, h1 7 _ rfl, h1 8 _ rfl, h1 9 _ rfl, h1 10 _ rfl, h1 11 _ rfl, h1 12 _ rfl, h1 13 _ rfl, h1 14 _ rfl⟩
          have HSW := Lib.hid (fun (W' : World) (hb : Below wr.heap.size wr W') => And.intro ((HX3.out.below hb HX3.out.lt).cell 3 (v := .slice da nd dcap) rfl) (hSa W' (hb.block gx (by omega))))
          have HTX := Lib.hid (show ∀ W' : World, Below w.heap.size w W' → Calls Tryz.prog 25 #[.agg #[v0, v1, v2, v3, v4, v5, v6, v7, v8, v9, v10, v11, v12, v13, v14]] W' fun e w' => e = .returned (.string (bs dt.txt)) ∧ Below W'.heap.size W' w' from fun W' hb => by have h1 := HTT W' hb; dsimp only at h1; rw [hcs] at h1; exact h1)
          have HBd := Lib.hid (Below.drew (Below.refl wr.heap.size wr))
          have HS0 := Lib.hid (HSW.out _ HBd.out)
          obtain ⟨T, hT⟩ : ∃ T, dt.txt = T := ⟨_, rfl⟩
          rw [hT] at HTX
          have hFk : FD j = DN ++ ([32, 58, 58, 61, 32] ++ (T ++ [10])) := by rw [hFj, ← hT]; show (bs DN).data.toList ++ _ = _; rw [bs_list]
          have hlj : (L2 ++ catL FD j).length + (FD j).length + 10 ≤ 2000000000 := by
            have h1 := catL_mono (f := FD) (n := nd) (i := j + 1) (by omega)
            have h2 := HLE.out
            simp only [catL, List.length_append] at h1 ⊢
            omega
          have hlk : (L2 ++ catL FD j).length + DN.length + T.length + 16 ≤ 2000000000 := by
            rw [hFk] at hlj
            simp only [List.length_append, List.length_cons, List.length_nil] at hlj ⊢
            omega
          obtain ⟨L3, hL3⟩ : ∃ L3, L2 ++ catL FD j = L3 := ⟨_, rfl⟩
          have e3 : bs L3 ++ bs DN ++ (⟨#[32, 58, 58, 61, 32]⟩ : ByteArray) ++ bs T ++ (⟨#[10]⟩ : ByteArray) = bs (L2 ++ catL FD (j + 1)) := by
            show bs L3 ++ bs DN ++ bs [32, 58, 58, 61, 32] ++ bs T ++ bs [10] = bs (L2 ++ (catL FD j ++ FD j))
            rw [hFk, ← List.append_assoc L2, hL3]
            simp only [bs_append, List.append_assoc]
          rw [hL3] at hlk ⊢
          have HE3 := Lib.hid e3
          have u1 : ¬ 9223372036854775807 < (bs L3).size + (bs DN).size := by rw [bs_size, bs_size]; omega
          have u2 : ¬ 9223372036854775807 < (bs L3).size + (bs DN).size + 5 := by rw [bs_size, bs_size]; omega
          have u3 : ¬ 9223372036854775807 < (bs L3).size + (bs DN).size + 5 + (bs T).size := by rw [bs_size, bs_size, bs_size]; omega
          have u4 : ¬ 9223372036854775807 < (bs L3).size + (bs DN).size + 5 + (bs T).size + 1 := by rw [bs_size, bs_size, bs_size]; omega
          clear hrd hSa hcs h15 hFj HTT hT hFk hlj hlk hL3 e3 hDN
          go_wp2_with fail
          clear c3
          go_region_held3 (fun w' => w'.cell? ⟨w.heap.size, 3, none⟩ = some (.slice da nd dcap) ∧ w'.cell? ⟨gx, ox, none⟩ = some (.string (bs DN)) ∧ w'.cell? ⟨gx, ox + 1, none⟩ = some v0 ∧ w'.cell? ⟨gx, ox + 1 + 1, none⟩ = some v1 ∧ w'.cell? ⟨gx, ox + 1 + 2, none⟩ = some v2 ∧ w'.cell? ⟨gx, ox + 1 + 3, none⟩ = some v3 ∧ w'.cell? ⟨gx, ox + 1 + 4, none⟩ = some v4 ∧ w'.cell? ⟨gx, ox + 1 + 5, none⟩ = some v5 ∧ w'.cell? ⟨gx, ox + 1 + 6, none⟩ = some v6 ∧ w'.cell? ⟨gx, ox + 1 + 7, none⟩ = some v7 ∧ w'.cell? ⟨gx, ox + 1 + 8, none⟩ = some v8 ∧ w'.cell? ⟨gx, ox + 1 + 9, none⟩ = some v9 ∧ w'.cell? ⟨gx, ox + 1 + 10, none⟩ = some v10 ∧ w'.cell? ⟨gx, ox + 1 + 11, none⟩ = some v11 ∧ w'.cell? ⟨gx, ox + 1 + 12, none⟩ = some v12 ∧ w'.cell? ⟨gx, ox + 1 + 13, none⟩ = some v13 ∧ w'.cell? ⟨gx, ox + 1 + 14, none⟩ = some v14) (first | with_reducible exact HS5.out | with_reducible exact HS0.out) (first
            | (go_at_call 25; refine (HTX.out _ (HB3.out.trans (HBd.out.mono hsz3))).mono ?_; rintro e w5 ⟨rfl, hb⟩; have HB5 := Lib.hid (HBd.out.trans (hb.mono HBd.out.size)); have HS5 := Lib.hid (HSW.out w5 HB5.out); clear hb))
          all_goals go_wp2_with fail
          all_goals exact ⟨⟨j + 1, hjl, rfl, by rw [HE3.out], HX3.out.below HB5.out HX3.out.lt, HB3.out.trans (HB5.out.mono hsz3)⟩, by simp only [Lib.intOf]; omega⟩
        · have p3 : decide ((j : Int) < (nd : Int)) = false := decide_eq_false (by omega)
          have p3n : decide (j < nd) = false := decide_eq_false hjl
          obtain rfl : j = nd := by omega
          have v9 : ¬ 9223372036854775807 < (bs (L2 ++ catL FD j)).size + 4 := by rw [bs_size, List.length_append]; have := HLE.out; omega
          have e9 : bs (L2 ++ catL FD j) ++ (⟨#[69, 78, 68, 10]⟩ : ByteArray) = bs (L2 ++ (catL FD j ++ [69, 78, 68, 10])) := by
            show bs _ ++ bs [69, 78, 68, 10] = _
            rw [bs_append, List.append_assoc]
          have HE9 := Lib.hid e9
          clear e9
          go_wp2_with fail
          go_ret
          refine ⟨?_, HB3.out⟩
          rw [HTXT.out, ← HE9.out]
          rfl
end Go.Proofs.YtgmnojnalkhepaaGreatDoor
