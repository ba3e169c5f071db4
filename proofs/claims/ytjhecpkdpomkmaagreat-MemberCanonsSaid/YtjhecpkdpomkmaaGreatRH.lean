/-
  A bundle of texts, one behind the other: McD, McE, McF, McG.
-/
import Derived.Test.YtjhecpkdpomkmaaGreatRG
import Derived.Test.YtjhecpkdpomkmaaGreatQS
namespace Go.Proofs.YtjhecpkdpomkmaaGreat
open Go.RowKit
set_option linter.unusedVariables false
set_option linter.unusedSimpArgs false
set_option maxRecDepth 100000

def RelO9 (w : World) (p : Nat → Bool) (n : Nat) (iv : Value) (wr : World) : Prop := ∃ j : Nat, j ≤ n ∧ iv = .int .i64 (j : Nat) ∧ allN p j = true ∧ Below w.heap.size w wr
set_option maxHeartbeats 32000000 in
theorem rof_9 (B : Nat) (w : World) (d : TB) (i room : Nat) (m : Int) (s : ByteArray) (nm : SL) (a : Option Addr) (n cap : Nat) (ch : Nat → VT) (hd : TBIn B w d) (hB : B ≤ w.heap.size) (hi : i < d.n) (hv : VIn B w (.mk 9 m s nm a n cap ch)) (hk : (d.f i).kind = 9) (hset : (d.f i).set.n ≤ 1000) (hrm : 0 < room) (hrm2 : room ≤ 1000) (hel : 0 ≤ (d.f i).elem)
    (hrec : ∀ j, j < n → ∀ W, Below w.heap.size w W → Calls Tryz.prog 58 #[.slice d.a d.n d.cap, .int .i64 ((d.f i).elem.toNat : Nat), .agg (ch j).cells.toArray, .int .i64 ((room - 1 : Nat) : Int)] W fun e w' => e = .returned (.bool ((ch j).has d (d.f i).elem.toNat)) ∧ Below W.heap.size W w') :
    Calls Tryz.prog 58 #[.slice d.a d.n d.cap, .int .i64 (i : Nat), .agg (VT.mk 9 m s nm a n cap ch).cells.toArray, .int .i64 (room : Nat)] w fun e w' => e = .returned (.bool ((VT.mk 9 m s nm a n cap ch).has d i)) ∧ Below w.heap.size w w' := by
  have hbd : bare 9 m s.size nm.n n = decide (nm.n = 0 ∧ m = 0 ∧ s.size = 0) := by
    generalize s.size = sz
    unfold bare
    rw [Bool.eq_iff_iff, decide_eq_true_iff]
    simp
    try omega
  have hhas : (VT.mk 9 m s nm a n cap ch).has d i = (decide (nm.n = 0 ∧ m = 0 ∧ s.size = 0) && ((d.f i).isSize n && allN (fun j => (ch j).has d (d.f i).elem.toNat) n)) := by
    simp only [VT.has]
    rw [hk, hbd]
    simp
  obtain ⟨res, hres⟩ : ∃ x, (decide (nm.n = 0 ∧ m = 0 ∧ s.size = 0) && ((d.f i).isSize n && allN (fun j => (ch j).has d (d.f i).elem.toNat) n)) = x := ⟨_, rfl⟩
  rw [hhas, hres, list5]
  have HREC := Lib.hid hrec
  have HVR := Lib.hid (hv.2.1.below (Below.refl w.heap.size w) hB)
  have HVC := Lib.hid (fun j hj => (hv.2.2 j hj).below (Below.refl w.heap.size w) hB)
  have HDI := Lib.hid ((hd.2 i hi).below (Below.refl w.heap.size w) hB)
  have HIN := Lib.hid (show s.size ≤ 140737488355328 from hv.1.2.2.1)
  obtain ⟨gx, ox, hix, hgx, hrd⟩ := hd.1.read 22 46 Tryz.underlying22 (by kernel_rfl) Tryz.sizeOf46 hi
  obtain ⟨r, hr⟩ : ∃ r, d.f i = r := ⟨_, rfl⟩
  have HX := Lib.hid (Bx.new w #[.int .i64 9, .int .i64 m, .string s, .slice nm.a nm.n nm.cap, .slice a n cap] 26)
  have HB := Lib.hid ((Below.refl w.heap.size w).alloc (Nat.le_refl _) (.cells #[.int .i64 9, .int .i64 m, .string s, .slice nm.a nm.n nm.cap, .slice a n cap] 26))
  have hra : (w.alloc (.cells #[.int .i64 9, .int .i64 m, .string s, .slice nm.a nm.n nm.cap, .slice a n cap] 26)).rangeAt gx ox r.cells := fun j u hj => hrd _ (HB.out.block gx (by omega)) j u (by rw [hr]; exact hj)
  have HRA := Lib.hid hra
  rw [hr] at HDI hk hset HREC hel
  try rw [hr] at hres
  have HRES := Lib.hid hres
  have HKD := Lib.hid hk
  have HST := Lib.hid hset
  have HO := Lib.hid (one_dcells15 r)
  clear hrec hd hB hi hv hbd hhas hgx hrd hr hra hset hres
  go_enter Tryz.func58, Tryz.ntmps58
  go_upto_region 1 with fail
  generalize hW0 : w.alloc (.cells #[.int .i64 9, .int .i64 m, .string s, .slice nm.a nm.n nm.cap, .slice a n cap] 26) = W0 at *
  have HSZ := Lib.hid (show W0.heap.size = w.heap.size + 1 from by rw [← hW0, World.size_alloc])
  clear hW0
  go_upto_region 2 with (first | (refine wpList_load_mid rfl 46 (.tmp 15) rfl gx ox rfl r.cells _ HRA.out Tryz.underlying46 rfl (by rw [info_D12, HO.out.1]) ?_) | (refine wpList_store_new rfl 46 (.tmp 9) (.tmp 16) rfl 12 _ r.cells HO.out.1 (by rfl) info_D12 HO.out.2 rfl rfl ?_))
  (try dsimp only [Act.put])
  have HX9 := Lib.hid (Bx.new W0 r.cells.toArray 46)
  have HX1 := Lib.hid (HX.out.alloc (.cells r.cells.toArray 46))
  have HB1 := Lib.hid (HB.out.alloc HB.out.size (.cells r.cells.toArray 46))
  generalize W0.alloc (.cells r.cells.toArray 46) = W1 at *
  obtain ⟨g, hg⟩ : ∃ g, W0.heap.size = g := ⟨_, rfl⟩
  rw [hg] at HX9 HSZ ⊢
  clear hg HX HRA
  obtain ⟨c0, c1, c2, c3, c4⟩ := fiveX HX1.out
  have d0 := HX9.out.cell 0 (v := .int .i64 r.kind) rfl
  rw [hk] at d0
  have d1 := HX9.out.cell 1 (v := .bool r.ext) rfl
  have d2 := HX9.out.cell 2 (v := .slice r.set.a r.set.n r.set.cap) rfl
  obtain ⟨et, het⟩ : ∃ x, r.elem.toNat = x := ⟨_, rfl⟩
  have d11 := HX9.out.cell 11 (v := .int .i64 r.elem) rfl
  rw [show r.elem = ((et : Nat) : Int) by omega] at d11
  have HET := Lib.hid het
  have HEL := Lib.hid hel
  rw [het] at HREC
  have HRM := Lib.hid hrm
  have HRM2 := Lib.hid hrm2
  have d5 := HX9.out.cell 5 (v := .string r.fr) rfl
  have d6 := HX9.out.cell 6 (v := .slice r.nm.a r.nm.n r.nm.cap) rfl
  have d7 := HX9.out.cell 7 (v := .slice r.mo.a r.mo.n r.mo.cap) rfl
  have q1 : ((room : Int) == 0) = false := beq_eq_false_iff_ne.2 (by omega)
  clear hk het hel hrm hrm2
  go_cut [30] from 17 to 30 (fun v wr => v = .bool false ∧ W1 = wr)
  case first =>
    go_wp2_with fail
    go_meet
    exact ⟨rfl, rfl⟩
  obtain ⟨rfl, rfl⟩ := hcut
  by_cases hn : nm.n = 0
  case neg =>
    have n2 : decide ((0 : Int) < (nm.n : Int)) = true := decide_eq_true (by omega)
    have n3 : decide (0 < nm.n) = true := decide_eq_true (by omega)
    have HZ := Lib.hid (show res = false from by rw [← HRES.out, decide_eq_false (by omega)]; rfl)
    clear hn
    go_wp2_with fail
    go_ret
    exact ⟨by rw [HZ.out]; rfl, HB1.out⟩
  case pos =>
  have n2 : decide ((0 : Int) < (nm.n : Int)) = false := decide_eq_false (by omega)
  have n3 : decide (0 < nm.n) = false := decide_eq_false (by omega)
  have HNN := Lib.hid hn
  clear hn
  by_cases hm : m = 0
  case neg =>
    have m1 : (m != 0) = true := bne_iff_ne.2 hm
    have m2 : (m == 0) = false := beq_eq_false_iff_ne.2 hm
    have HZ := Lib.hid (show res = false from by rw [← HRES.out, decide_eq_false (by omega)]; rfl)
    clear hm
    go_wp2_with fail
    go_ret
    exact ⟨by rw [HZ.out]; rfl, HB1.out⟩
  case pos =>
  have m1 : (m != 0) = false := by rw [hm]; rfl
  have m2 : (m == 0) = true := by rw [hm]; rfl
  have HMM := Lib.hid hm
  clear hm
  go_upto_region 6 with fail
  go_cut [73] from 39 to 73 (fun v wx => v = .bool false ∧ W1 = wx)
  case first =>
    by_cases hl : n = 0
    · have l2 : decide ((0 : Int) < (n : Int)) = false := decide_eq_false (by omega)
      have l3 : decide (0 < n) = false := decide_eq_false (by omega)
      clear hl
      go_wp2_with fail
      go_meet
      exact ⟨rfl, rfl⟩
    · have l2 : decide ((0 : Int) < (n : Int)) = true := decide_eq_true (by omega)
      have l3 : decide (0 < n) = true := decide_eq_true (by omega)
      clear hl
      go_wp2_with fail
      go_meet
      exact ⟨rfl, rfl⟩
  obtain ⟨rfl, rfl⟩ := hcut
  clear n2 n3 m1 m2
  have hes := empty_str s
  by_cases hs : s.size = 0
  case neg =>
    have s1 : s.toList.isEmpty = false := by rw [hes, decide_eq_false hs]
    have s2 : (!s.toList.isEmpty) = true := by rw [s1]; rfl
    have HZ := Lib.hid (show res = false from by rw [← HRES.out, decide_eq_false (by omega)]; rfl)
    clear hs hes
    go_wp2_with fail
    go_ret
    exact ⟨by rw [HZ.out]; rfl, HB1.out⟩
  case pos =>
  have s1 : s.toList.isEmpty = true := by rw [hes, decide_eq_true hs]
  have s2 : (!s.toList.isEmpty) = false := by rw [s1]; rfl
  have HRE := Lib.hid (show res = (r.isSize n && allN (fun j => (ch j).has d r.elem.toNat) n) from by rw [← HRES.out, decide_eq_true (by have h1 := HNN.out; have h2 := HMM.out; omega)]; rfl)
  clear hs hes
  obtain ⟨p, hp⟩ : ∃ p, (fun j => (ch j).has d r.elem.toNat) = p := ⟨_, rfl⟩
  have HPP := Lib.hid (show ∀ j, (ch j).has d et = p j from fun j => by rw [← hp, HET.out])
  have HRE2 := Lib.hid (show res = (r.isSize n && allN p n) from by rw [← hp]; exact HRE.out)
  have q2 : IntKind.i64.wrap ((room : Int) - 1) = ((room - 1 : Nat) : Int) := by have h1 := HRM.out; have h2 := HRM2.out; rw [wrap_ok (by unfold I64; omega)]; omega
  obtain ⟨rm, hrm⟩ : ∃ x, room - 1 = x := ⟨_, rfl⟩
  rw [hrm] at HREC q2
  have HNK := Lib.hid (show n ≤ 140737488355328 from HVR.out.2.1)
  clear hp hrm
  go_wp2_with fail
  go_loopw [12] (fun iv wr => RelO9 W1 p n iv wr) (fun iv _ => n - (Lib.intOf iv).toNat)
  case atStart => exact ⟨0, Nat.zero_le _, rfl, rfl, Below.refl _ _⟩
  case round =>
    obtain ⟨j, hj, rfl, hall, hbel⟩ := hrel
    have HA := Lib.hid hall
    have HBR := Lib.hid hbel
    have HBT := Lib.hid (HB1.out.trans (hbel.mono HB1.out.size))
    clear hall hbel
    have e4 := (HX1.out.below HBR.out HX1.out.lt).cell 4 (v := .slice a n cap) rfl
    by_cases hlt : j < n
    · have t1 : decide ((j : Int) < (n : Int)) = true := decide_eq_true (by omega)
      have t1n : decide (j < n) = true := decide_eq_true hlt
      have t3 : IntKind.i64.wrap ((j : Int) + 1) = ((j + 1 : Nat) : Int) := wrap_succ hlt (by have := HNK.out; omega)
      obtain ⟨gy, oy, hiy, hgy, hry⟩ := HVR.out.read 24 26 Tryz.underlying24 (by kernel_rfl) Tryz.sizeOf26 hlt
      obtain ⟨k1, m1, s1, nm1, a1, n1, cap1, ch1, hcj⟩ := vin_mk (HVC.out j hlt)
      have hcell : (ch j).cells = [.int .i64 k1, .int .i64 m1, .string s1, .slice nm1.a nm1.n nm1.cap, .slice a1 n1 cap1] := by rw [hcj, list5]
      have hrc := fun (W : World) (hb : Below wr.heap.size wr W) => HREC.out j hlt W (HBT.out.trans (hb.mono HBT.out.size))
      rw [hcell, HPP.out] at hrc
      have HRC := Lib.hid hrc
      have HS := Lib.hid (show ∀ W, Below wr.heap.size wr W → (W.cell? ⟨w.heap.size, 4, none⟩ = some (.slice a n cap) ∧ W.cell? ⟨g, 11, none⟩ = some (.int .i64 (et : Nat)) ∧ W.cell? ⟨gy, oy, none⟩ = some (.int .i64 k1) ∧ W.cell? ⟨gy, oy + 1, none⟩ = some (.int .i64 m1) ∧ W.cell? ⟨gy, oy + 2, none⟩ = some (.string s1) ∧ W.cell? ⟨gy, oy + 3, none⟩ = some (.slice nm1.a nm1.n nm1.cap) ∧ W.cell? ⟨gy, oy + 4, none⟩ = some (.slice a1 n1 cap1)) from fun W hb => by
        have h1 := HBT.out.trans (hb.mono HBT.out.size)
        have h2 := hry W (h1.block gy hgy)
        have hx := HX1.out.below HBR.out HX1.out.lt
        have h9 := HX9.out.below HBR.out HX9.out.lt
        refine ⟨(hx.below hb hx.lt).cell 4 rfl, ?_, ?_, h2 1 _ (by rw [hcell]; rfl), h2 2 _ (by rw [hcell]; rfl), h2 3 _ (by rw [hcell]; rfl), h2 4 _ (by rw [hcell]; rfl)⟩
        · have h3 := (h9.below hb h9.lt).cell 11 (v := .int .i64 r.elem) rfl
          rwa [show r.elem = ((et : Nat) : Int) by have := HET.out; have := HEL.out; omega] at h3
        · have h3 := h2 0 (.int .i64 k1) (by rw [hcell]; rfl)
          rwa [Nat.add_zero] at h3)
      have HSU := Lib.hid (fun h => allN_succ (f := p) (n := j) HA.out h)
      have HFA := Lib.hid (show p j = false → res = false from fun h => by rw [HRE2.out, allN_no (f := p) hlt h, Bool.and_false])
      obtain ⟨pj, hpj⟩ : ∃ x, p j = x := ⟨_, rfl⟩
      rw [hpj] at HRC HSU HFA
      clear hry hcj hcell hrc hpj hgy
      have HBX0 := Lib.hid (Below.drew (Below.refl wr.heap.size wr))
      have HS0 := Lib.hid (HS.out _ HBX0.out)
      go_upto_region 35 with fail
      go_region_held3 (fun W => W.cell? ⟨w.heap.size, 4, none⟩ = some (.slice a n cap) ∧ W.cell? ⟨g, 11, none⟩ = some (.int .i64 (et : Nat)) ∧ W.cell? ⟨gy, oy, none⟩ = some (.int .i64 k1) ∧ W.cell? ⟨gy, oy + 1, none⟩ = some (.int .i64 m1) ∧ W.cell? ⟨gy, oy + 2, none⟩ = some (.string s1) ∧ W.cell? ⟨gy, oy + 3, none⟩ = some (.slice nm1.a nm1.n nm1.cap) ∧ W.cell? ⟨gy, oy + 4, none⟩ = some (.slice a1 n1 cap1)) (first | with_reducible exact HS1.out | with_reducible exact HS0.out) (first
        | (go_at_call 58; (with_reducible refine (HRC.out _ HBX0.out).mono ?_); rintro e w3 ⟨rfl, h3⟩; have HBX1 := Lib.hid (HBX0.out.trans (h3.mono HBX0.out.size)); have HS1 := Lib.hid (HS.out _ HBX1.out); clear h3))
      cases pj with
      | true =>
        have HN := Lib.hid (HSU.out (by first | rfl | trivial))
        go_wp2_with fail
        go_roundw
        case rel => exact ⟨j + 1, hlt, rfl, HN.out, HBR.out.trans (HBX1.out.mono HBR.out.size)⟩
        case measure => simp only [Lib.intOf]; omega
      | false =>
        have HZ := Lib.hid (HFA.out (by first | rfl | trivial))
        go_wp2_with fail
        go_ret
        exact ⟨by rw [HZ.out]; rfl, HBT.out.trans (HBX1.out.mono HBT.out.size)⟩
    · have t1 : decide ((j : Int) < (n : Int)) = false := decide_eq_false (by omega)
      have t1n : decide (j < n) = false := decide_eq_false hlt
      obtain rfl : j = n := by omega
      have HZ := Lib.hid (show res = r.isSize j from by rw [HRE2.out, HA.out, Bool.and_true])
      have HSIZ := Lib.hid (show ∀ W, Below w.heap.size w W → Calls Tryz.prog 97 #[.agg r.cells.toArray, .int .i64 (j : Nat)] W fun e w' => e = .returned (.bool (r.isSize j)) ∧ Below W.heap.size W w' from fun W hW => rsize15_ok w.heap.size W r j (HDI.out.below hW (Nat.le_refl _)) hW.size HST.out)
      have HRG := Lib.hid (show wr.rangeAt g 0 r.cells from (HX9.out.below HBR.out HX9.out.lt).range)
      generalize r.isSize j = z at *
      go_wp2_with (refine wpList_load_mid rfl 46 (.tmp 9) rfl g 0 rfl r.cells _ HRG.out Tryz.underlying46 rfl (by rw [info_D12, HO.out.1]) ?_)
      refine (HSIZ.out _ HBT.out).mono ?_
      rintro e w4 ⟨rfl, h4⟩
      have HB4 := Lib.hid (HBT.out.trans (h4.mono HBT.out.size))
      clear h4
      go_wp2_with fail
      go_ret
      exact ⟨by rw [HZ.out]; rfl, HB4.out⟩
end Go.Proofs.YtjhecpkdpomkmaaGreat

namespace Go.Proofs.YtjhecpkdpomkmaaGreat
open Go.RowKit
set_option linter.unusedVariables false
set_option linter.unusedSimpArgs false
set_option maxRecDepth 100000

def RelO10 (w : World) (p : Nat → Bool) (n : Nat) (iv : Value) (wr : World) : Prop := ∃ j : Nat, j ≤ n ∧ iv = .int .i64 (j : Nat) ∧ (∀ q, q < j → p q = false) ∧ Below w.heap.size w wr
set_option maxHeartbeats 32000000 in
theorem rof_10 (B : Nat) (w : World) (d : TB) (i room : Nat) (m : Int) (s : ByteArray) (nm : SL) (a : Option Addr) (n cap : Nat) (ch : Nat → VT) (hd : TBIn B w d) (hB : B ≤ w.heap.size) (hi : i < d.n) (hv : VIn B w (.mk 10 m s nm a n cap ch)) (hk : (d.f i).kind = 10) (hset : (d.f i).set.n ≤ 1000) (hrm : 0 < room) (hrm2 : room ≤ 1000) (hfw : (d.f i).pa.n ≤ 10000 ∧ (d.f i).ad.n ≤ 10000) (hpt : ∀ k, k < (d.f i).count → 0 ≤ ((d.f i).part k).t)
    (hrec : ∀ k, k < (d.f i).count → 0 < n → ∀ W, Below w.heap.size w W → Calls Tryz.prog 58 #[.slice d.a d.n d.cap, .int .i64 (((d.f i).part k).t.toNat : Nat), .agg (ch 0).cells.toArray, .int .i64 ((room - 1 : Nat) : Int)] W fun e w' => e = .returned (.bool ((ch 0).has d ((d.f i).part k).t.toNat)) ∧ Below W.heap.size W w') :
    Calls Tryz.prog 58 #[.slice d.a d.n d.cap, .int .i64 (i : Nat), .agg (VT.mk 10 m s nm a n cap ch).cells.toArray, .int .i64 (room : Nat)] w fun e w' => e = .returned (.bool ((VT.mk 10 m s nm a n cap ch).has d i)) ∧ Below w.heap.size w w' := by
  have hbd : bare 10 m s.size nm.n n = decide (nm.n = 0 ∧ m = 0) := by
    generalize s.size = sz
    unfold bare
    rw [Bool.eq_iff_iff, decide_eq_true_iff]
    simp
    try omega
  have hhas : (VT.mk 10 m s nm a n cap ch).has d i = (decide (nm.n = 0 ∧ m = 0) && (decide ((d.f i).fnd s < (d.f i).count) && (decide (n = 1) && (ch 0).has d ((d.f i).part ((d.f i).fnd s)).t.toNat))) := by
    simp only [VT.has]
    rw [hk, hbd]
    simp
  obtain ⟨res, hres⟩ : ∃ x, (decide (nm.n = 0 ∧ m = 0) && (decide ((d.f i).fnd s < (d.f i).count) && (decide (n = 1) && (ch 0).has d ((d.f i).part ((d.f i).fnd s)).t.toNat))) = x := ⟨_, rfl⟩
  rw [hhas, hres, list5]
  have HREC := Lib.hid hrec
  have HVR := Lib.hid (hv.2.1.below (Below.refl w.heap.size w) hB)
  have HVC := Lib.hid (fun j hj => (hv.2.2 j hj).below (Below.refl w.heap.size w) hB)
  have HDI := Lib.hid ((hd.2 i hi).below (Below.refl w.heap.size w) hB)
  have HIN := Lib.hid (show s.size ≤ 140737488355328 from hv.1.2.2.1)
  obtain ⟨gx, ox, hix, hgx, hrd⟩ := hd.1.read 22 46 Tryz.underlying22 (by kernel_rfl) Tryz.sizeOf46 hi
  obtain ⟨r, hr⟩ : ∃ r, d.f i = r := ⟨_, rfl⟩
  have HX := Lib.hid (Bx.new w #[.int .i64 10, .int .i64 m, .string s, .slice nm.a nm.n nm.cap, .slice a n cap] 26)
  have HB := Lib.hid ((Below.refl w.heap.size w).alloc (Nat.le_refl _) (.cells #[.int .i64 10, .int .i64 m, .string s, .slice nm.a nm.n nm.cap, .slice a n cap] 26))
  have hra : (w.alloc (.cells #[.int .i64 10, .int .i64 m, .string s, .slice nm.a nm.n nm.cap, .slice a n cap] 26)).rangeAt gx ox r.cells := fun j u hj => hrd _ (HB.out.block gx (by omega)) j u (by rw [hr]; exact hj)
  have HRA := Lib.hid hra
  rw [hr] at HDI hk hset HREC hfw hpt
  have HFW := Lib.hid hfw
  have HPT := Lib.hid hpt
  try rw [hr] at hres
  have HRES := Lib.hid hres
  have HKD := Lib.hid hk
  have HST := Lib.hid hset
  have HO := Lib.hid (one_dcells15 r)
  clear hrec hd hB hi hv hbd hhas hgx hrd hr hra hset hres
  go_enter Tryz.func58, Tryz.ntmps58
  go_upto_region 1 with fail
  generalize hW0 : w.alloc (.cells #[.int .i64 10, .int .i64 m, .string s, .slice nm.a nm.n nm.cap, .slice a n cap] 26) = W0 at *
  have HSZ := Lib.hid (show W0.heap.size = w.heap.size + 1 from by rw [← hW0, World.size_alloc])
  clear hW0
  go_upto_region 2 with (first | (refine wpList_load_mid rfl 46 (.tmp 15) rfl gx ox rfl r.cells _ HRA.out Tryz.underlying46 rfl (by rw [info_D12, HO.out.1]) ?_) | (refine wpList_store_new rfl 46 (.tmp 9) (.tmp 16) rfl 12 _ r.cells HO.out.1 (by rfl) info_D12 HO.out.2 rfl rfl ?_))
  (try dsimp only [Act.put])
  have HX9 := Lib.hid (Bx.new W0 r.cells.toArray 46)
  have HX1 := Lib.hid (HX.out.alloc (.cells r.cells.toArray 46))
  have HB1 := Lib.hid (HB.out.alloc HB.out.size (.cells r.cells.toArray 46))
  generalize W0.alloc (.cells r.cells.toArray 46) = W1 at *
  obtain ⟨g, hg⟩ : ∃ g, W0.heap.size = g := ⟨_, rfl⟩
  rw [hg] at HX9 HSZ ⊢
  clear hg HX HRA
  obtain ⟨c0, c1, c2, c3, c4⟩ := fiveX HX1.out
  have d0 := HX9.out.cell 0 (v := .int .i64 r.kind) rfl
  rw [hk] at d0
  have d1 := HX9.out.cell 1 (v := .bool r.ext) rfl
  have d2 := HX9.out.cell 2 (v := .slice r.set.a r.set.n r.set.cap) rfl
  have HRM := Lib.hid hrm
  have HRM2 := Lib.hid hrm2
  have d5 := HX9.out.cell 5 (v := .string r.fr) rfl
  have d6 := HX9.out.cell 6 (v := .slice r.nm.a r.nm.n r.nm.cap) rfl
  have d7 := HX9.out.cell 7 (v := .slice r.mo.a r.mo.n r.mo.cap) rfl
  have q1 : ((room : Int) == 0) = false := beq_eq_false_iff_ne.2 (by omega)
  clear hk hfw hpt hrm hrm2
  go_cut [30] from 17 to 30 (fun v wr => v = .bool false ∧ W1 = wr)
  case first =>
    go_wp2_with fail
    go_meet
    exact ⟨rfl, rfl⟩
  obtain ⟨rfl, rfl⟩ := hcut
  by_cases hn : nm.n = 0
  case neg =>
    have n2 : decide ((0 : Int) < (nm.n : Int)) = true := decide_eq_true (by omega)
    have n3 : decide (0 < nm.n) = true := decide_eq_true (by omega)
    have HZ := Lib.hid (show res = false from by rw [← HRES.out, decide_eq_false (by omega)]; rfl)
    clear hn
    go_wp2_with fail
    go_ret
    exact ⟨by rw [HZ.out]; rfl, HB1.out⟩
  case pos =>
  have n2 : decide ((0 : Int) < (nm.n : Int)) = false := decide_eq_false (by omega)
  have n3 : decide (0 < nm.n) = false := decide_eq_false (by omega)
  have HNN := Lib.hid hn
  clear hn
  by_cases hm : m = 0
  case neg =>
    have m1 : (m != 0) = true := bne_iff_ne.2 hm
    have m2 : (m == 0) = false := beq_eq_false_iff_ne.2 hm
    have HZ := Lib.hid (show res = false from by rw [← HRES.out, decide_eq_false (by omega)]; rfl)
    clear hm
    go_wp2_with fail
    go_ret
    exact ⟨by rw [HZ.out]; rfl, HB1.out⟩
  case pos =>
  have m1 : (m != 0) = false := by rw [hm]; rfl
  have m2 : (m == 0) = true := by rw [hm]; rfl
  have HMM := Lib.hid hm
  clear hm
  go_upto_region 6 with fail
  go_cut [73] from 39 to 73 (fun v wx => v = .bool false ∧ W1 = wx)
  case first =>
    by_cases hl : n = 0
    · have l2 : decide ((0 : Int) < (n : Int)) = false := decide_eq_false (by omega)
      have l3 : decide (0 < n) = false := decide_eq_false (by omega)
      clear hl
      go_wp2_with fail
      go_meet
      exact ⟨rfl, rfl⟩
    · have l2 : decide ((0 : Int) < (n : Int)) = true := decide_eq_true (by omega)
      have l3 : decide (0 < n) = true := decide_eq_true (by omega)
      clear hl
      go_wp2_with fail
      go_meet
      exact ⟨rfl, rfl⟩
  obtain ⟨rfl, rfl⟩ := hcut
  clear n2 n3 m1 m2
  have hes := empty_str s
  go_upto_region 8 with fail
  go_cut [96] from 74 to 96 (fun v wx => v = .bool false ∧ W1 = wx)
  case first =>
    by_cases hs : s.size = 0
    · have s1 : s.toList.isEmpty = true := by rw [hes, decide_eq_true hs]
      have s2 : (!s.toList.isEmpty) = false := by rw [s1]; rfl
      clear hs hes
      go_wp2_with fail
      go_meet
      exact ⟨rfl, rfl⟩
    · have s1 : s.toList.isEmpty = false := by rw [hes, decide_eq_false hs]
      have s2 : (!s.toList.isEmpty) = true := by rw [s1]; rfl
      clear hs hes
      go_wp2_with fail
      go_meet
      exact ⟨rfl, rfl⟩
  obtain ⟨rfl, rfl⟩ := hcut
  clear hes
  have HRE := Lib.hid (show res = (decide (r.fnd s < r.count) && (decide (n = 1) && (ch 0).has d (r.part (r.fnd s)).t.toNat)) from by rw [← HRES.out, decide_eq_true (by have h1 := HNN.out; have h2 := HMM.out; omega)]; rfl)
  have HRE2 := Lib.hid (show res = (decide (r.fnd s < r.count) && (decide (n = 1) && (ch 0).has d (r.part (r.fnd s)).t.toNat)) from HRE.out)
  have q2 : IntKind.i64.wrap ((room : Int) - 1) = ((room - 1 : Nat) : Int) := by have h1 := HRM.out; have h2 := HRM2.out; rw [wrap_ok (by unfold I64; omega)]; omega
  obtain ⟨rm, hrm⟩ : ∃ x, room - 1 = x := ⟨_, rfl⟩
  rw [hrm] at HREC q2
  have HFI := Lib.hid (show ∀ W, Below w.heap.size w W → Calls Tryz.prog 24 #[.agg r.cells.toArray] W fun e w' => ∃ v, e = .returned v ∧ PRowF W.heap.size w' v r.count (fun k => (r.part k).cells) ∧ Below W.heap.size W w' from fun W hW => Fields_ok w.heap.size W r (HDI.out.below hW (Nat.le_refl _)) hW.size (by have := HFW.out.1; omega) (by have := HFW.out.2; omega))
  have HRG := Lib.hid (show W1.rangeAt g 0 r.cells from HX9.out.range)
  have HCT := Lib.hid (show r.count ≤ 20000 from by have := HFW.out; unfold DT.count; omega)
  clear hrm
  go_wp2_with (refine wpList_load_mid rfl 46 (.tmp 9) rfl g 0 rfl r.cells _ HRG.out Tryz.underlying46 rfl (by rw [info_D12, HO.out.1]) ?_)
  refine (HFI.out _ HB1.out).mono ?_
  rintro e w2 ⟨v, rfl, ⟨av, cv, rfl, hcv, hrow⟩, h2⟩
  have HB2 := Lib.hid (HB1.out.trans (h2.mono HB1.out.size))
  have HX2 := Lib.hid (HX1.out.below h2 HX1.out.lt)
  have HROW := Lib.hid hrow
  clear h2 hrow
  obtain ⟨N, hN⟩ : ∃ x, r.count = x := ⟨_, rfl⟩
  have HNE := Lib.hid hN
  rw [hN] at HROW HCT HREC HPT HRE2 ⊢
  clear hN
  go_wp2_with fail
  go_loopw [11] (fun iv wr => RelO10 w2 (fun k => sEq (r.part k).name s) N iv wr) (fun iv _ => N - (Lib.intOf iv).toNat)
  case atStart => exact ⟨0, Nat.zero_le _, rfl, fun j hj => absurd hj (Nat.not_lt_zero _), Below.refl _ _⟩
  case round =>
    obtain ⟨j, hj, rfl, hall, hbel⟩ := hrel
    have HA := Lib.hid hall
    have HBR := Lib.hid hbel
    have HBT := Lib.hid (HB2.out.trans (hbel.mono HB2.out.size))
    clear hall hbel
    by_cases hlt : j < N
    · have t1 : decide ((j : Int) < (N : Int)) = true := decide_eq_true (by omega)
      have t1n : decide (j < N) = true := decide_eq_true hlt
      have t3 : IntKind.i64.wrap ((j : Int) + 1) = ((j + 1 : Nat) : Int) := wrap_succ hlt (by have := HCT.out; omega)
      obtain ⟨gy, oy, hiy, hgb, hgy, hry⟩ := HROW.out j hlt
      have hcy := fun (W : World) (hb : Below wr.heap.size wr W) (q : Nat) (u : Value) (hu : (r.part j).cells[q]? = some u) => ((HBR.out.trans (hb.mono HBR.out.size)).cell (p := ⟨gy, oy + q, none⟩) hgy).trans (hry q u hu)
      have f0 := hcy wr (Below.refl _ _) 0 (.string (r.part j).name) rfl
      rw [Nat.add_zero] at f0
      have e2 := (HX2.out.below HBR.out HX2.out.lt).cell 2 (v := .string s) rfl
      have e4 := (HX2.out.below HBR.out HX2.out.lt).cell 4 (v := .slice a n cap) rfl
      obtain ⟨tj, htj⟩ : ∃ x, (r.part j).t.toNat = x := ⟨_, rfl⟩
      have HTY := Lib.hid (show ∀ W, Below wr.heap.size wr W → W.cell? ⟨gy, oy + 1, none⟩ = some (.int .i64 (tj : Nat)) from fun W hb => by
        have h := hcy W hb 1 (.int .i64 (r.part j).t) rfl
        rwa [show (r.part j).t = ((tj : Nat) : Int) by have := HPT.out j hlt; omega] at h)
      have hrc := HREC.out j hlt
      rw [htj] at hrc
      have HRC0 := Lib.hid hrc
      have HFD := Lib.hid (show sEq (r.part j).name s = true → r.fnd s = j from fun h => by unfold DT.fnd; exact fst_eq (by rw [HNE.out]; exact hlt) HA.out h)
      have HTJ := Lib.hid htj
      obtain ⟨fn, hfn⟩ : ∃ x, (r.part j).name = x := ⟨_, rfl⟩
      rw [hfn] at f0 HFD
      have HFN := Lib.hid hfn
      clear hcy hry hgb hgy hrc htj hfn
      cases heb : sEq fn s with
      | false =>
        have r1 : (fn.toList == s.toList) = false := heb
        have HNX := Lib.hid (show ∀ q, q < j + 1 → sEq (r.part q).name s = false from fun q hq => by
          rcases Nat.lt_or_ge q j with h1 | h1
          · exact HA.out q h1
          · rw [show q = j by omega, HFN.out]; exact heb)
        go_upto_region 28 with fail
        go_quiet (fail)
        go_wp2_with fail
        go_roundw
        case rel => exact ⟨j + 1, hlt, rfl, HNX.out, HBR.out.trans ⟨rfl, rfl, rfl, Nat.le_refl _, fun _ _ => rfl⟩⟩
        case measure => simp only [Lib.intOf]; omega
      | true =>
        have r1 : (fn.toList == s.toList) = true := heb
        have hf := HFD.out heb
        have HRE3 := Lib.hid (show res = (decide (n = 1) && (ch 0).has d tj) from by rw [HRE2.out, hf, decide_eq_true hlt, HTJ.out]; rfl)
        clear hf
        go_upto_region 28 with fail
        go_quiet (fail)
        go_upto_region 29 with fail
        have HBQ := Lib.hid (show Below wr.heap.size wr (wr.drewN nq) from ⟨rfl, rfl, rfl, Nat.le_refl _, fun _ _ => rfl⟩)
        have f4 : (wr.drewN nq).cell? ⟨w.heap.size, 4, none⟩ = some (.slice a n cap) := e4
        generalize wr.drewN nq = wq at *
        clear f0 e2 e4 r1 heb
        by_cases hn1 : n = 1
        · subst hn1
          obtain ⟨ga, oa, rfl, hga, hca⟩ := HVR.out.2.2.2 Nat.zero_lt_one
          obtain ⟨k1, m1, s1, nm1, a1, n1, cap1, ch1, hcj⟩ := vin_mk (HVC.out 0 Nat.zero_lt_one)
          have hcell : (ch 0).cells = [.int .i64 k1, .int .i64 m1, .string s1, .slice nm1.a nm1.n nm1.cap, .slice a1 n1 cap1] := by rw [hcj, list5]
          have HBT2 := Lib.hid (HBT.out.trans (HBQ.out.mono HBT.out.size))
          have hrc := fun (W : World) (hb : Below wq.heap.size wq W) => HRC0.out Nat.zero_lt_one W (HBT2.out.trans (hb.mono HBT2.out.size))
          rw [hcell] at hrc
          have HZ := Lib.hid (show res = (ch 0).has d tj from by rw [HRE3.out]; rfl)
          generalize (ch 0).has d tj = z at *
          have HRC := Lib.hid hrc
          have HS := Lib.hid (show ∀ W, Below wq.heap.size wq W → (W.cell? ⟨w.heap.size, 4, none⟩ = some (.slice (some ⟨ga, oa, none⟩) 1 cap) ∧ W.cell? ⟨gy, oy + 1, none⟩ = some (.int .i64 (tj : Nat)) ∧ W.cell? ⟨ga, oa, none⟩ = some (.int .i64 k1) ∧ W.cell? ⟨ga, oa + 1, none⟩ = some (.int .i64 m1) ∧ W.cell? ⟨ga, oa + 2, none⟩ = some (.string s1) ∧ W.cell? ⟨ga, oa + 3, none⟩ = some (.slice nm1.a nm1.n nm1.cap) ∧ W.cell? ⟨ga, oa + 4, none⟩ = some (.slice a1 n1 cap1)) from fun W hb => by
            have h0 := HBQ.out.trans (hb.mono HBQ.out.size)
            have h1 := HBT2.out.trans (hb.mono HBT2.out.size)
            have hx := (HX2.out.below HBR.out HX2.out.lt)
            have hc : ∀ q u, (ch 0).cells[q]? = some u → W.cell? ⟨ga, oa + q, none⟩ = some u := fun q u hu => by
              have h2 := hca 0 Nat.zero_lt_one q u hu
              rw [Nat.zero_mul, Nat.add_zero] at h2
              exact (h1.cell (p := ⟨ga, oa + q, none⟩) hga).trans h2
            refine ⟨(hx.below h0 hx.lt).cell 4 rfl, HTY.out W h0, ?_, hc 1 _ (by rw [hcell]; rfl), hc 2 _ (by rw [hcell]; rfl), hc 3 _ (by rw [hcell]; rfl), hc 4 _ (by rw [hcell]; rfl)⟩
            have h3 := hc 0 (.int .i64 k1) (by rw [hcell]; rfl)
            rwa [Nat.add_zero] at h3)
          clear hca hcj hcell hrc hga f4
          have t9 : decide ((0 : Int) < (1 : Int)) = true := by decide
          have HBX0 := Lib.hid (Below.drew (Below.refl wq.heap.size wq))
          have HS0 := Lib.hid (HS.out _ HBX0.out)
          go_region_held3 (fun W => W.cell? ⟨w.heap.size, 4, none⟩ = some (.slice (some ⟨ga, oa, none⟩) 1 cap) ∧ W.cell? ⟨gy, oy + 1, none⟩ = some (.int .i64 (tj : Nat)) ∧ W.cell? ⟨ga, oa, none⟩ = some (.int .i64 k1) ∧ W.cell? ⟨ga, oa + 1, none⟩ = some (.int .i64 m1) ∧ W.cell? ⟨ga, oa + 2, none⟩ = some (.string s1) ∧ W.cell? ⟨ga, oa + 3, none⟩ = some (.slice nm1.a nm1.n nm1.cap) ∧ W.cell? ⟨ga, oa + 4, none⟩ = some (.slice a1 n1 cap1)) (first | with_reducible exact HS1.out | with_reducible exact HS0.out) (first
            | (go_at_call 58; (with_reducible refine (HRC.out _ HBX0.out).mono ?_); rintro e w3 ⟨rfl, h3⟩; have HBX1 := Lib.hid (HBX0.out.trans (h3.mono HBX0.out.size)); have HS1 := Lib.hid (HS.out _ HBX1.out); clear h3))
          go_wp2_with fail
          go_ret
          exact ⟨by rw [HZ.out]; rfl, HBT2.out.trans (HBX1.out.mono HBT2.out.size)⟩
        · have r2 : ((n : Int) == 1) = false := beq_eq_false_iff_ne.2 (by omega)
          have HZ := Lib.hid (show res = false from by rw [HRE3.out, decide_eq_false hn1]; rfl)
          clear hn1
          go_quiet (fail)
          go_wp2_with fail
          go_ret
          exact ⟨by rw [HZ.out]; rfl, (HBT.out.trans (HBQ.out.mono HBT.out.size)).trans ⟨rfl, rfl, rfl, Nat.le_refl _, fun _ _ => rfl⟩⟩
    · have t1 : decide ((j : Int) < (N : Int)) = false := decide_eq_false (by omega)
      have t1n : decide (j < N) = false := decide_eq_false hlt
      obtain rfl : j = N := by omega
      have HZ := Lib.hid (show res = false from by rw [HRE2.out]; unfold DT.fnd; rw [HNE.out, fst_end HA.out, decide_eq_false (Nat.lt_irrefl _)]; rfl)
      go_wp2_with fail
      go_ret
      exact ⟨by rw [HZ.out]; rfl, HBT.out⟩
end Go.Proofs.YtjhecpkdpomkmaaGreat

namespace Go.Proofs.YtjhecpkdpomkmaaGreat
open Go.RowKit
set_option linter.unusedVariables false
set_option linter.unusedSimpArgs false
set_option maxRecDepth 100000

theorem seq_refuse {r : DT} {nm : SL} {h : Nat → Nat → Bool} {k x : Nat} (e : seqGo r nm h k = some x) (c : x < nm.n ∧ sEq (nm.f x) (r.part k).name = true) (c2 : h x (r.part k).t.toNat = false) : seqGo r nm h (k + 1) = none := by
  unfold seqGo
  rw [e]
  simp only
  rw [if_pos c, if_neg (by rw [c2]; decide)]
def RelSeq (w : World) (r : DT) (nm : SL) (h : Nat → Nat → Bool) (N : Nat) (kv iv : Value) (wr : World) : Prop := ∃ i x : Nat, i ≤ N ∧ x ≤ nm.n ∧ iv = .int .i64 (i : Nat) ∧ kv = .int .i64 (x : Nat) ∧ seqGo r nm h i = some x ∧ Below w.heap.size w wr
theorem RelSeq.below {w wr w' : World} {r : DT} {nm : SL} {h : Nat → Nat → Bool} {N : Nat} {kv iv : Value} (hr : RelSeq w r nm h N kv iv wr) (hb : Below wr.heap.size wr w') : RelSeq w r nm h N kv iv w' := by
  obtain ⟨i, x, h1, h2, h3, h4, h5, h6⟩ := hr
  exact ⟨i, x, h1, h2, h3, h4, h5, h6.trans (hb.mono h6.size)⟩
set_option maxHeartbeats 64000000 in
theorem rseq_ok (B : Nat) (w : World) (d : TB) (r : DT) (room : Nat) (m : Int) (s : ByteArray) (nm : SL) (a : Option Addr) (n cap : Nat) (ch : Nat → VT) (hr : DTIn B w r) (hB : B ≤ w.heap.size) (hv : VIn B w (.mk 8 m s nm a n cap ch)) (hrm : 0 < room) (hrm2 : room ≤ 1000) (hfw : r.pa.n ≤ 10000 ∧ r.ad.n ≤ 10000) (hpt : ∀ k, k < r.count → 0 ≤ (r.part k).t)
    (hrec : ∀ x k, x < n → k < r.count → ∀ W, Below w.heap.size w W → Calls Tryz.prog 58 #[.slice d.a d.n d.cap, .int .i64 ((r.part k).t.toNat : Nat), .agg (ch x).cells.toArray, .int .i64 ((room - 1 : Nat) : Int)] W fun e w' => e = .returned (.bool ((ch x).has d (r.part k).t.toNat)) ∧ Below W.heap.size W w') :
    Calls Tryz.prog 94 #[.slice d.a d.n d.cap, .agg r.cells.toArray, .agg (VT.mk 8 m s nm a n cap ch).cells.toArray, .int .i64 (room : Nat)] w fun e w' => e = .returned (.bool (decide (nm.n = n ∧ m = 0 ∧ s.size = 0) && decide (seqGo r nm (fun j x => (ch j).has d x) r.count = some nm.n))) ∧ Below w.heap.size w w' := by
  obtain ⟨h, hh⟩ : ∃ h, (fun j x => (ch j).has d x) = h := ⟨_, rfl⟩
  have HH := Lib.hid (show ∀ j x, (ch j).has d x = h j x from fun j x => by rw [← hh])
  rw [hh, list5]
  obtain ⟨res, hres⟩ : ∃ z, (decide (nm.n = n ∧ m = 0 ∧ s.size = 0) && decide (seqGo r nm h r.count = some nm.n)) = z := ⟨_, rfl⟩
  have HRES := Lib.hid hres
  rw [hres]
  have HREC := Lib.hid hrec
  have HPT := Lib.hid hpt
  have HFW := Lib.hid hfw
  have HDI := Lib.hid (hr.below (Below.refl w.heap.size w) hB)
  have HVR := Lib.hid (hv.2.1.below (Below.refl w.heap.size w) hB)
  have HVC := Lib.hid (fun j hj => (hv.2.2 j hj).below (Below.refl w.heap.size w) hB)
  have HVN := Lib.hid (hv.1.2.2.2.1.below (Below.refl w.heap.size w) hB)
  have HO := Lib.hid (one_dcells15 r)
  have q2 : IntKind.i64.wrap ((room : Int) - 1) = ((room - 1 : Nat) : Int) := by rw [wrap_ok (by unfold I64; omega)]; omega
  obtain ⟨rm, hrm1⟩ : ∃ x, room - 1 = x := ⟨_, rfl⟩
  rw [hrm1] at HREC q2
  have hx5 := (Bx.new w r.cells.toArray 46).alloc (.cells #[.int .i64 8, .int .i64 m, .string s, .slice nm.a nm.n nm.cap, .slice a n cap] 26)
  have hx6 := Bx.new (w.alloc (.cells r.cells.toArray 46)) #[.int .i64 8, .int .i64 m, .string s, .slice nm.a nm.n nm.cap, .slice a n cap] 26
  rw [World.size_alloc] at hx6
  have hb0 := (Below.refl w.heap.size w).alloc (Nat.le_refl _) (.cells r.cells.toArray 46)
  have HX5 := Lib.hid hx5
  have HX6 := Lib.hid hx6
  have HB1 := Lib.hid (hb0.alloc hb0.size (.cells #[.int .i64 8, .int .i64 m, .string s, .slice nm.a nm.n nm.cap, .slice a n cap] 26))
  clear hr hB hv hrm hrm2 hfw hpt hrec hh hres hrm1 hx5 hx6 hb0
  go_enter Tryz.func94, Tryz.ntmps94
  go_upto_region 1 with fail
  generalize (w.alloc (.cells r.cells.toArray 46)).alloc (.cells #[.int .i64 8, .int .i64 m, .string s, .slice nm.a nm.n nm.cap, .slice a n cap] 26) = W1 at *
  obtain ⟨c0, c1, c2, c3, c4⟩ := fiveX HX6.out
  have hes := empty_str s
  by_cases hn : nm.n = n
  case neg =>
    have n1 : ((nm.n : Int) != (n : Int)) = true := bne_iff_ne.2 (by omega)
    have n2 : ((nm.n : Int) == (n : Int)) = false := beq_eq_false_iff_ne.2 (by omega)
    have HZ := Lib.hid (show res = false from by rw [← HRES.out, decide_eq_false (by omega)]; rfl)
    clear hn hes
    go_wp2_with fail
    go_ret
    exact ⟨by rw [HZ.out]; rfl, HB1.out⟩
  case pos =>
  have n1 : ((nm.n : Int) != (n : Int)) = false := by rw [hn]; simp
  have n2 : ((nm.n : Int) == (n : Int)) = true := by rw [hn]; simp
  have HNN := Lib.hid hn
  clear hn
  by_cases hm : m = 0
  case neg =>
    have m1 : (m != 0) = true := bne_iff_ne.2 hm
    have m2 : (m == 0) = false := beq_eq_false_iff_ne.2 hm
    have HZ := Lib.hid (show res = false from by rw [← HRES.out, decide_eq_false (by omega)]; rfl)
    clear hm hes
    go_wp2_with fail
    go_ret
    exact ⟨by rw [HZ.out]; rfl, HB1.out⟩
  case pos =>
  have m1 : (m != 0) = false := by rw [hm]; rfl
  have m2 : (m == 0) = true := by rw [hm]; rfl
  have HMM := Lib.hid hm
  clear hm
  by_cases hs : s.size = 0
  case neg =>
    have s1 : s.toList.isEmpty = false := by rw [hes, decide_eq_false hs]
    have s2 : (!s.toList.isEmpty) = true := by rw [s1]; rfl
    have HZ := Lib.hid (show res = false from by rw [← HRES.out, decide_eq_false (by omega)]; rfl)
    clear hs hes
    go_wp2_with fail
    go_ret
    exact ⟨by rw [HZ.out]; rfl, HB1.out⟩
  case pos =>
  have s1 : s.toList.isEmpty = true := by rw [hes, decide_eq_true hs]
  have s2 : (!s.toList.isEmpty) = false := by rw [s1]; rfl
  have HRE := Lib.hid (show res = decide (seqGo r nm h r.count = some nm.n) from by rw [← HRES.out, decide_eq_true (by have h1 := HNN.out; have h2 := HMM.out; omega)]; rfl)
  have HFI := Lib.hid (show ∀ W, Below w.heap.size w W → Calls Tryz.prog 24 #[.agg r.cells.toArray] W fun e w' => ∃ v, e = .returned v ∧ PRowF W.heap.size w' v r.count (fun k => (r.part k).cells) ∧ Below W.heap.size W w' from fun W hW => Fields_ok w.heap.size W r (HDI.out.below hW (Nat.le_refl _)) hW.size (by have := HFW.out.1; omega) (by have := HFW.out.2; omega))
  have HRG := Lib.hid (show W1.rangeAt w.heap.size 0 r.cells from HX5.out.range)
  have HCT := Lib.hid (show r.count ≤ 20000 from by have := HFW.out; unfold DT.count; omega)
  have HPN := Lib.hid (show r.pa.n ≤ r.count from by unfold DT.count; omega)
  have HNK := Lib.hid (show nm.n ≤ 140737488355328 from HVN.out.2.1)
  clear hs hes
  go_wp2_with (refine wpList_load_mid rfl 46 (.tmp 5) rfl w.heap.size 0 rfl r.cells _ HRG.out Tryz.underlying46 rfl (by rw [info_D12, HO.out.1]) ?_)
  refine (HFI.out _ HB1.out).mono ?_
  rintro e w2 ⟨v, rfl, ⟨av, cv, rfl, hcv, hrow⟩, h2⟩
  have HB2 := Lib.hid (HB1.out.trans (h2.mono HB1.out.size))
  have HX52 := Lib.hid (HX5.out.below h2 HX5.out.lt)
  have HX62 := Lib.hid (HX6.out.below h2 HX6.out.lt)
  have HROW := Lib.hid hrow
  clear h2 hrow c0 c1 c2 c3 c4 n1 n2 m1 m2 s1 s2
  obtain ⟨N, hN⟩ : ∃ x, r.count = x := ⟨_, rfl⟩
  rw [hN] at HROW HCT HREC HPT HRE HPN ⊢
  obtain ⟨pn, hpn⟩ : ∃ x, r.pa.n = x := ⟨_, rfl⟩
  have HPE := Lib.hid hpn
  rw [hpn] at HPN
  clear hN
  go_wp2_with fail
  go_loopw [9, 11] (fun kv iv wr => RelSeq w2 r nm h N kv iv wr) (fun _ iv _ => N - (Lib.intOf iv).toNat)
  case atStart => exact ⟨0, 0, Nat.zero_le _, Nat.zero_le _, rfl, rfl, rfl, Below.refl _ _⟩
  case round =>
    obtain ⟨i, x, hi, hxn, rfl, rfl, hgo, hbel⟩ := hrel
    have HGO := Lib.hid hgo
    have HBR := Lib.hid hbel
    have HBT := Lib.hid (HB2.out.trans (hbel.mono HB2.out.size))
    clear hgo hbel
    by_cases hlt : i < N
    · have t1 : decide ((i : Int) < (N : Int)) = true := decide_eq_true (by omega)
      have t1n : decide (i < N) = true := decide_eq_true hlt
      have t3 : IntKind.i64.wrap ((i : Int) + 1) = ((i + 1 : Nat) : Int) := wrap_succ hlt (by have := HCT.out; omega)
      obtain ⟨gy, oy, hiy, hgb, hgy, hry⟩ := HROW.out i hlt
      have hcy := fun (W : World) (hb : Below wr.heap.size wr W) (q : Nat) (u : Value) (hu : (r.part i).cells[q]? = some u) => ((HBR.out.trans (hb.mono HBR.out.size)).cell (p := ⟨gy, oy + q, none⟩) hgy).trans (hry q u hu)
      have HCY := Lib.hid hcy
      have f0 := hcy wr (Below.refl _ _) 0 (.string (r.part i).name) rfl
      rw [Nat.add_zero] at f0
      have e3 := (HX62.out.below HBR.out HX62.out.lt).cell 3 (v := .slice nm.a nm.n nm.cap) rfl
      obtain ⟨fn, hfn⟩ : ∃ y, (r.part i).name = y := ⟨_, rfl⟩
      rw [hfn] at f0
      have HFN := Lib.hid hfn
      obtain ⟨cA, hcA⟩ : ∃ b, (decide (x < nm.n) && sEq (nm.f x) fn) = b := ⟨_, rfl⟩
      have HCA := Lib.hid hcA
      have HXN := Lib.hid hxn
      clear hry hgb hgy hfn hcA hxn hcy
      go_upto_region 8 with fail
      go_cut [54] from 37 to 54 (fun v wx => v = .bool cA ∧ Below wr.heap.size wr wx)
      case first =>
        by_cases hx : x < nm.n
        · have r1 : decide ((x : Int) < (nm.n : Int)) = true := decide_eq_true (by omega)
          have r1n : decide (x < nm.n) = true := decide_eq_true hx
          obtain ⟨gz, oz, hiz, hgz, hrz⟩ := HVN.out.read 23 9 Tryz.underlying23 (by kernel_rfl) Tryz.sizeOf9 hx
          have z0 := hrz wr (HBT.out.block gz hgz) 0 _ rfl
          rw [Nat.add_zero] at z0
          have HEQ := Lib.hid (show cA = sEq (nm.f x) fn from by rw [← HCA.out, r1n]; rfl)
          cases heb : sEq (nm.f x) fn with
          | true =>
            have r2 : ((nm.f x).toList == fn.toList) = true := heb
            have HE2 := Lib.hid (HEQ.out.trans heb)
            clear heb hx hrz
            go_quiet (fail)
            go_wp2_with fail
            go_meet
            exact ⟨by rw [HE2.out], rfl, rfl, rfl, Nat.le_refl _, fun _ _ => rfl⟩
          | false =>
            have r2 : ((nm.f x).toList == fn.toList) = false := heb
            have HE2 := Lib.hid (HEQ.out.trans heb)
            clear heb hx hrz
            go_quiet (fail)
            go_wp2_with fail
            go_meet
            exact ⟨by rw [HE2.out], rfl, rfl, rfl, Nat.le_refl _, fun _ _ => rfl⟩
        · have r1 : decide ((x : Int) < (nm.n : Int)) = false := decide_eq_false (by omega)
          have r1n : decide (x < nm.n) = false := decide_eq_false hx
          have HE2 := Lib.hid (show cA = false from by rw [← HCA.out, r1n]; rfl)
          clear hx
          go_quiet (fail)
          go_wp2_with fail
          go_meet
          exact ⟨by rw [HE2.out], rfl, rfl, rfl, Nat.le_refl _, fun _ _ => rfl⟩
      rename World => wx
      obtain ⟨rfl, hbx⟩ := hcut
      have HBX := Lib.hid hbx
      have HBRX := Lib.hid (HBR.out.trans (hbx.mono HBR.out.size))
      have HBTX := Lib.hid (HBT.out.trans (hbx.mono HBT.out.size))
      clear hbx f0 e3
      cases cA with
      | true =>
        have hxlt : x < nm.n := by
          have h1 := HCA.out
          simp only [Bool.and_eq_true, decide_eq_true_eq] at h1
          exact h1.1
        have HC := Lib.hid (show x < nm.n ∧ sEq (nm.f x) (r.part i).name = true from by
          have h1 := HCA.out
          simp only [Bool.and_eq_true, decide_eq_true_eq] at h1
          rw [HFN.out]
          exact h1)
        have hxl : x < n := by have := HNN.out; omega
        have t4 : IntKind.i64.wrap ((x : Int) + 1) = ((x + 1 : Nat) : Int) := wrap_succ hxlt (by have := HNK.out; omega)
        obtain ⟨gl, ol, hil, hgl, hrl⟩ := HVR.out.read 24 26 Tryz.underlying24 (by kernel_rfl) Tryz.sizeOf26 hxl
        obtain ⟨k1, m1, s1, nm1, a1, n1, cap1, ch1, hcj⟩ := vin_mk (HVC.out x hxl)
        have hcell : (ch x).cells = [.int .i64 k1, .int .i64 m1, .string s1, .slice nm1.a nm1.n nm1.cap, .slice a1 n1 cap1] := by rw [hcj, list5]
        obtain ⟨tj, htj⟩ : ∃ y, (r.part i).t.toNat = y := ⟨_, rfl⟩
        have hrc := fun (W : World) (hb : Below wx.heap.size wx W) => HREC.out x i hxl hlt W (HBTX.out.trans (hb.mono HBTX.out.size))
        rw [hcell, htj, HH.out] at hrc
        have HTK := Lib.hid (show h x tj = true → RelSeq w2 r nm h N (.int .i64 ((x + 1 : Nat) : Int)) (.int .i64 ((i + 1 : Nat) : Int)) wx from fun hz => ⟨i + 1, x + 1, hlt, hxlt, rfl, rfl, seq_take HGO.out HC.out (by rw [htj]; exact hz), HBRX.out⟩)
        have HNO := Lib.hid (show h x tj = false → res = false from fun hz => by rw [HRE.out, seq_none (by omega : i + 1 ≤ N) (seq_refuse HGO.out HC.out (by rw [htj]; exact hz))]; rfl)
        have HS := Lib.hid (show ∀ W, Below wx.heap.size wx W → (W.cell? ⟨w.heap.size + 1, 4, none⟩ = some (.slice a n cap) ∧ W.cell? ⟨gy, oy + 1, none⟩ = some (.int .i64 (tj : Nat)) ∧ W.cell? ⟨gl, ol, none⟩ = some (.int .i64 k1) ∧ W.cell? ⟨gl, ol + 1, none⟩ = some (.int .i64 m1) ∧ W.cell? ⟨gl, ol + 2, none⟩ = some (.string s1) ∧ W.cell? ⟨gl, ol + 3, none⟩ = some (.slice nm1.a nm1.n nm1.cap) ∧ W.cell? ⟨gl, ol + 4, none⟩ = some (.slice a1 n1 cap1)) from fun W hb => by
          have h0 := HBX.out.trans (hb.mono HBX.out.size)
          have h1 := HBTX.out.trans (hb.mono HBTX.out.size)
          have hx := HX62.out.below HBRX.out HX62.out.lt
          have h2 := hrl W (h1.block gl hgl)
          refine ⟨(hx.below hb hx.lt).cell 4 rfl, ?_, ?_, h2 1 _ (by rw [hcell]; rfl), h2 2 _ (by rw [hcell]; rfl), h2 3 _ (by rw [hcell]; rfl), h2 4 _ (by rw [hcell]; rfl)⟩
          · have h3 := HCY.out W h0 1 (.int .i64 (r.part i).t) rfl
            rwa [show (r.part i).t = ((tj : Nat) : Int) by have := HPT.out i hlt; omega] at h3
          · have h3 := h2 0 (.int .i64 k1) (by rw [hcell]; rfl)
            rwa [Nat.add_zero] at h3)
        have HRC := Lib.hid hrc
        have HXL := Lib.hid hxl
        generalize h x tj = z at *
        have u9 : decide ((x : Int) < (n : Int)) = true := decide_eq_true (by omega)
        clear hrl hcj hcell htj hrc hgl hxlt hxl
        have HBX0 := Lib.hid (Below.drew (Below.refl wx.heap.size wx))
        have HS0 := Lib.hid (HS.out _ HBX0.out)
        go_upto_region 9 with fail
        go_region_held3 (fun W => W.cell? ⟨w.heap.size + 1, 4, none⟩ = some (.slice a n cap) ∧ W.cell? ⟨gy, oy + 1, none⟩ = some (.int .i64 (tj : Nat)) ∧ W.cell? ⟨gl, ol, none⟩ = some (.int .i64 k1) ∧ W.cell? ⟨gl, ol + 1, none⟩ = some (.int .i64 m1) ∧ W.cell? ⟨gl, ol + 2, none⟩ = some (.string s1) ∧ W.cell? ⟨gl, ol + 3, none⟩ = some (.slice nm1.a nm1.n nm1.cap) ∧ W.cell? ⟨gl, ol + 4, none⟩ = some (.slice a1 n1 cap1)) (first | with_reducible exact HS1.out | with_reducible exact HS0.out) (first
          | (go_at_call 58; (with_reducible refine (HRC.out _ HBX0.out).mono ?_); rintro e w3 ⟨rfl, h3⟩; have HBX1 := Lib.hid (HBX0.out.trans (h3.mono HBX0.out.size)); have HS1 := Lib.hid (HS.out _ HBX1.out); clear h3))
        cases z with
        | true =>
          have HQ := Lib.hid (HTK.out (by first | rfl | trivial))
          have HQ2 := Lib.hid (RelSeq.below HQ.out HBX1.out)
          go_wp2_with fail
          go_roundw
          case rel => exact HQ2.out
          case measure => simp only [Lib.intOf]; omega
        | false =>
          have HZ := Lib.hid (HNO.out (by first | rfl | trivial))
          go_wp2_with fail
          go_ret
          exact ⟨by rw [HZ.out]; rfl, HBTX.out.trans (HBX1.out.mono HBTX.out.size)⟩
      | false =>
        have HNC := Lib.hid (show ¬ (x < nm.n ∧ sEq (nm.f x) (r.part i).name = true) from fun ⟨h1, h2⟩ => by
          have h3 := HCA.out
          rw [HFN.out] at h2
          rw [decide_eq_true h1, h2] at h3
          cases h3)
        have e8 := (HX52.out.below HBRX.out HX52.out.lt).cell 8 (v := .slice r.pa.a r.pa.n r.pa.cap) rfl
        rw [hpn] at e8
        have p2 := HCY.out wx HBX.out 2 (.bool (r.part i).opt) rfl
        have p3 := HCY.out wx HBX.out 3 (.slice (r.part i).d.a (r.part i).d.n (r.part i).d.cap) rfl
        have HSK := Lib.hid (fun hc => seq_skip HGO.out HNC.out hc)
        have HBD := Lib.hid (fun hc => seq_bad HGO.out HNC.out hc)
        rw [HPE.out] at HSK HBD
        obtain ⟨fo, hfo⟩ : ∃ y, (r.part i).opt = y := ⟨_, rfl⟩
        obtain ⟨fd, hfd⟩ : ∃ y, (r.part i).d.n = y := ⟨_, rfl⟩
        rw [hfo] at p2 HSK HBD
        rw [hfd] at p3 HSK HBD
        clear hfo hfd
        have HSTEP := Lib.hid (show ¬ (i < pn ∧ fo = false ∧ fd = 0) → RelSeq w2 r nm h N (.int .i64 (x : Nat)) (.int .i64 ((i + 1 : Nat) : Int)) wx from fun hc => ⟨i + 1, x, hlt, HXN.out, rfl, rfl, HSK.out hc, HBRX.out⟩)
        by_cases hip : i < pn
        · have u1 : decide ((i : Int) < (pn : Int)) = true := decide_eq_true (by omega)
          have u1n : decide (i < pn) = true := decide_eq_true hip
          cases fo with
          | true =>
            have HQ := Lib.hid (HSTEP.out (fun hc => by cases hc.2.1))
            go_wp2_with fail
            go_roundw
            case rel => exact HQ.out
            case measure => simp only [Lib.intOf]; omega
          | false =>
            by_cases hd0 : fd = 0
            · have u2 : ((fd : Int) == 0) = true := by simp [hd0]
              have HZ := Lib.hid (show res = false from by rw [HRE.out, seq_none (by omega : i + 1 ≤ N) (HBD.out ⟨hip, rfl, hd0⟩)]; rfl)
              clear hd0
              go_wp2_with fail
              go_ret
              exact ⟨by rw [HZ.out]; rfl, HBTX.out⟩
            · have u2 : ((fd : Int) == 0) = false := beq_eq_false_iff_ne.2 (by omega)
              have HQ := Lib.hid (HSTEP.out (fun hc => hd0 hc.2.2))
              clear hd0
              go_wp2_with fail
              go_roundw
              case rel => exact HQ.out
              case measure => simp only [Lib.intOf]; omega
        · have u1 : decide ((i : Int) < (pn : Int)) = false := decide_eq_false (by omega)
          have u1n : decide (i < pn) = false := decide_eq_false hip
          have HQ := Lib.hid (HSTEP.out (fun hc => hip hc.1))
          go_wp2_with fail
          go_roundw
          case rel => exact HQ.out
          case measure => simp only [Lib.intOf]; omega
    · have t1 : decide ((i : Int) < (N : Int)) = false := decide_eq_false (by omega)
      have t1n : decide (i < N) = false := decide_eq_false hlt
      obtain rfl : i = N := by omega
      have e3 := (HX62.out.below HBR.out HX62.out.lt).cell 3 (v := .slice nm.a nm.n nm.cap) rfl
      by_cases hx : x = nm.n
      · have u1 : ((x : Int) == (nm.n : Int)) = true := by rw [hx]; simp
        have HZ := Lib.hid (show res = true from by rw [HRE.out, HGO.out, hx]; exact decide_eq_true rfl)
        clear hx
        go_wp2_with fail
        go_ret
        exact ⟨by rw [HZ.out]; rfl, HBT.out⟩
      · have u1 : ((x : Int) == (nm.n : Int)) = false := beq_eq_false_iff_ne.2 (by omega)
        have HZ := Lib.hid (show res = false from by rw [HRE.out, HGO.out]; exact decide_eq_false fun h => hx (by injection h))
        clear hx
        go_wp2_with fail
        go_ret
        exact ⟨by rw [HZ.out]; rfl, HBT.out⟩
end Go.Proofs.YtjhecpkdpomkmaaGreat

namespace Go.Proofs.YtjhecpkdpomkmaaGreat
open Go.RowKit
set_option linter.unusedVariables false
set_option linter.unusedSimpArgs false
set_option maxRecDepth 100000
set_option maxHeartbeats 32000000 in
theorem rof_no (B : Nat) (w : World) (d : TB) (i room : Nat) (k m : Int) (s : ByteArray) (nm : SL) (a : Option Addr) (n cap : Nat) (ch : Nat → VT) (hd : TBIn B w d) (hB : B ≤ w.heap.size) (hi : i < d.n) (hk : k ≠ (d.f i).kind) :
    Calls Tryz.prog 58 #[.slice d.a d.n d.cap, .int .i64 (i : Nat), .agg (VT.mk k m s nm a n cap ch).cells.toArray, .int .i64 (room : Nat)] w fun e w' => e = .returned (.bool false) ∧ Below w.heap.size w w' := by
  rw [list5]
  have HDI := Lib.hid ((hd.2 i hi).below (Below.refl w.heap.size w) hB)
  obtain ⟨gx, ox, hix, hgx, hrd⟩ := hd.1.read 22 46 Tryz.underlying22 (by kernel_rfl) Tryz.sizeOf46 hi
  obtain ⟨r, hr⟩ : ∃ r, d.f i = r := ⟨_, rfl⟩
  have HX := Lib.hid (Bx.new w #[.int .i64 k, .int .i64 m, .string s, .slice nm.a nm.n nm.cap, .slice a n cap] 26)
  have HB := Lib.hid ((Below.refl w.heap.size w).alloc (Nat.le_refl _) (.cells #[.int .i64 k, .int .i64 m, .string s, .slice nm.a nm.n nm.cap, .slice a n cap] 26))
  have hra : (w.alloc (.cells #[.int .i64 k, .int .i64 m, .string s, .slice nm.a nm.n nm.cap, .slice a n cap] 26)).rangeAt gx ox r.cells := fun j u hj => hrd _ (HB.out.block gx (by omega)) j u (by rw [hr]; exact hj)
  have HRA := Lib.hid hra
  rw [hr] at HDI hk
  have HO := Lib.hid (one_dcells15 r)
  clear hd hB hi hgx hrd hr hra
  go_enter Tryz.func58, Tryz.ntmps58
  go_upto_region 1 with fail
  generalize hW0 : w.alloc (.cells #[.int .i64 k, .int .i64 m, .string s, .slice nm.a nm.n nm.cap, .slice a n cap] 26) = W0 at *
  have HSZ := Lib.hid (show W0.heap.size = w.heap.size + 1 from by rw [← hW0, World.size_alloc])
  clear hW0
  go_upto_region 2 with (first | (refine wpList_load_mid rfl 46 (.tmp 15) rfl gx ox rfl r.cells _ HRA.out Tryz.underlying46 rfl (by rw [info_D12, HO.out.1]) ?_) | (refine wpList_store_new rfl 46 (.tmp 9) (.tmp 16) rfl 12 _ r.cells HO.out.1 (by rfl) info_D12 HO.out.2 rfl rfl ?_))
  (try dsimp only [Act.put])
  have HX9 := Lib.hid (Bx.new W0 r.cells.toArray 46)
  have HX1 := Lib.hid (HX.out.alloc (.cells r.cells.toArray 46))
  have HB1 := Lib.hid (HB.out.alloc HB.out.size (.cells r.cells.toArray 46))
  generalize W0.alloc (.cells r.cells.toArray 46) = W1 at *
  obtain ⟨g, hg⟩ : ∃ g, W0.heap.size = g := ⟨_, rfl⟩
  rw [hg] at HX9 HSZ ⊢
  clear hg HX HRA
  obtain ⟨c0, c1, c2, c3, c4⟩ := fiveX HX1.out
  have d0 := HX9.out.cell 0 (v := .int .i64 r.kind) rfl
  have HPT := Lib.hid (show ∀ W : World, Calls Tryz.prog 93 #[.int .i64 r.kind] W fun e w' => e = .returned (.bool (isPart3 r.kind)) ∧ w' = W from fun W => rparted_ok W r.kind)
  generalize isPart3 r.kind = z at *
  generalize r.kind = kd at *
  have k1 : (k != kd) = true := bne_iff_ne.2 hk
  have k2 : (k == kd) = false := beq_eq_false_iff_ne.2 hk
  clear hk
  by_cases hrm : room = 0
  · have q1 : ((room : Int) == 0) = true := by simp [hrm]
    clear hrm
    go_wp2_with fail
    refine (HPT.out _).mono ?_
    rintro e w2 ⟨rfl, rfl⟩
    cases z with
    | true =>
      go_wp2_with fail
      go_ret
      exact ⟨rfl, HB1.out⟩
    | false =>
      go_wp2_with fail
      go_ret
      exact ⟨rfl, HB1.out⟩
  · have q1 : ((room : Int) == 0) = false := beq_eq_false_iff_ne.2 (by omega)
    clear hrm
    go_wp2_with fail
    go_ret
    exact ⟨rfl, HB1.out⟩
set_option maxHeartbeats 32000000 in
theorem rof_8 (B : Nat) (w : World) (d : TB) (i room : Nat) (m : Int) (s : ByteArray) (nm : SL) (a : Option Addr) (n cap : Nat) (ch : Nat → VT) (hd : TBIn B w d) (hB : B ≤ w.heap.size) (hi : i < d.n) (hk : (d.f i).kind = 8) (hrm : 0 < room)
    (hsq : ∀ W, Below w.heap.size w W → Calls Tryz.prog 94 #[.slice d.a d.n d.cap, .agg (d.f i).cells.toArray, .agg (VT.mk 8 m s nm a n cap ch).cells.toArray, .int .i64 (room : Nat)] W fun e w' => e = .returned (.bool (decide (nm.n = n ∧ m = 0 ∧ s.size = 0) && decide (seqGo (d.f i) nm (fun j x => (ch j).has d x) (d.f i).count = some nm.n))) ∧ Below W.heap.size W w') :
    Calls Tryz.prog 58 #[.slice d.a d.n d.cap, .int .i64 (i : Nat), .agg (VT.mk 8 m s nm a n cap ch).cells.toArray, .int .i64 (room : Nat)] w fun e w' => e = .returned (.bool ((VT.mk 8 m s nm a n cap ch).has d i)) ∧ Below w.heap.size w w' := by
  have hhas : (VT.mk 8 m s nm a n cap ch).has d i = (decide (nm.n = n ∧ m = 0 ∧ s.size = 0) && decide (seqGo (d.f i) nm (fun j x => (ch j).has d x) (d.f i).count = some nm.n)) := by
    rw [Bool.eq_iff_iff, has_8 hk]
    simp only [Bool.and_eq_true, decide_eq_true_eq, true_and]
    unfold bare
    simp
    constructor
    · rintro ⟨⟨h1, h2⟩, h3, h4⟩
      exact ⟨⟨h3.symm, h1, h2⟩, h4⟩
    · rintro ⟨⟨h3, h1, h2⟩, h4⟩
      exact ⟨⟨h1, h2⟩, h3.symm, h4⟩
  rw [← hhas, list5] at hsq
  generalize (VT.mk 8 m s nm a n cap ch).has d i = res at *
  have HSQ := Lib.hid hsq
  clear hsq hhas
  rw [list5]
  have HDI := Lib.hid ((hd.2 i hi).below (Below.refl w.heap.size w) hB)
  obtain ⟨gx, ox, hix, hgx, hrd⟩ := hd.1.read 22 46 Tryz.underlying22 (by kernel_rfl) Tryz.sizeOf46 hi
  obtain ⟨r, hr⟩ : ∃ r, d.f i = r := ⟨_, rfl⟩
  have HX := Lib.hid (Bx.new w #[.int .i64 8, .int .i64 m, .string s, .slice nm.a nm.n nm.cap, .slice a n cap] 26)
  have HB := Lib.hid ((Below.refl w.heap.size w).alloc (Nat.le_refl _) (.cells #[.int .i64 8, .int .i64 m, .string s, .slice nm.a nm.n nm.cap, .slice a n cap] 26))
  have hra : (w.alloc (.cells #[.int .i64 8, .int .i64 m, .string s, .slice nm.a nm.n nm.cap, .slice a n cap] 26)).rangeAt gx ox r.cells := fun j u hj => hrd _ (HB.out.block gx (by omega)) j u (by rw [hr]; exact hj)
  have HRA := Lib.hid hra
  rw [hr] at HDI hk HSQ
  have HO := Lib.hid (one_dcells15 r)
  clear hd hB hi hgx hrd hr hra
  go_enter Tryz.func58, Tryz.ntmps58
  go_upto_region 1 with fail
  generalize hW0 : w.alloc (.cells #[.int .i64 8, .int .i64 m, .string s, .slice nm.a nm.n nm.cap, .slice a n cap] 26) = W0 at *
  have HSZ := Lib.hid (show W0.heap.size = w.heap.size + 1 from by rw [← hW0, World.size_alloc])
  clear hW0
  go_upto_region 2 with (first | (refine wpList_load_mid rfl 46 (.tmp 15) rfl gx ox rfl r.cells _ HRA.out Tryz.underlying46 rfl (by rw [info_D12, HO.out.1]) ?_) | (refine wpList_store_new rfl 46 (.tmp 9) (.tmp 16) rfl 12 _ r.cells HO.out.1 (by rfl) info_D12 HO.out.2 rfl rfl ?_))
  (try dsimp only [Act.put])
  have HX9 := Lib.hid (Bx.new W0 r.cells.toArray 46)
  have HX1 := Lib.hid (HX.out.alloc (.cells r.cells.toArray 46))
  have HB1 := Lib.hid (HB.out.alloc HB.out.size (.cells r.cells.toArray 46))
  generalize W0.alloc (.cells r.cells.toArray 46) = W1 at *
  obtain ⟨g, hg⟩ : ∃ g, W0.heap.size = g := ⟨_, rfl⟩
  rw [hg] at HX9 HSZ ⊢
  clear hg HX HRA
  obtain ⟨c0, c1, c2, c3, c4⟩ := fiveX HX1.out
  have d0 := HX9.out.cell 0 (v := .int .i64 r.kind) rfl
  rw [hk] at d0
  have q1 : ((room : Int) == 0) = false := beq_eq_false_iff_ne.2 (by omega)
  clear hk hrm
  have HRG := Lib.hid (show W1.rangeAt g 0 r.cells from HX9.out.range)
  go_wp2_with (refine wpList_load_mid rfl 46 (.tmp 9) rfl g 0 rfl r.cells _ HRG.out Tryz.underlying46 rfl (by rw [info_D12, HO.out.1]) ?_)
  refine (HSQ.out _ HB1.out).mono ?_
  rintro e w2 ⟨rfl, h2⟩
  have HB2 := Lib.hid (HB1.out.trans (h2.mono HB1.out.size))
  clear h2
  go_wp2_with fail
  go_ret
  exact ⟨rfl, HB2.out⟩
theorem rof_ok : ∀ (v : VT) (B : Nat) (w : World) (d : TB) (i room : Nat), TBIn B w d → B ≤ w.heap.size → d.right = true → (∀ j, j < d.n → (d.f j).set.n ≤ 1000) → i < d.n → VIn B w v → room ≤ 1000 → v.deeper room = false →
    Calls Tryz.prog 58 #[.slice d.a d.n d.cap, .int .i64 (i : Nat), .agg v.cells.toArray, .int .i64 (room : Nat)] w fun e w' => e = .returned (.bool (v.has d i)) ∧ Below w.heap.size w w'
  | .nil, _, _, _, _, _, _, _, _, _, _, h, _, _ => h.elim
  | .mk k m s nm a n cap ch, B, w, d, i, room, hd, hB, hr, hs, hi, hv, hrm, hdp => by
    have hrow := TB.right_row hr hi
    by_cases hk : k = (d.f i).kind
    · have hkd := hrow.kd
      have hset := hs i hi
      have hfw := hrow.few
      have hrec : ∀ x t, x < n → t < d.n → 0 < room → isParted k = true → ∀ W, Below w.heap.size w W → Calls Tryz.prog 58 #[.slice d.a d.n d.cap, .int .i64 (t : Nat), .agg (ch x).cells.toArray, .int .i64 ((room - 1 : Nat) : Int)] W fun e w' => e = .returned (.bool ((ch x).has d t)) ∧ Below W.heap.size W w' := fun x t hx ht h0 hp W hW => by
        refine rof_ok (ch x) w.heap.size W d t (room - 1) ((hd.below (Below.refl _ _) hB).below hW (Nat.le_refl _)) hW.size hr hs ht (((hv.2.2 x hx).below (Below.refl _ _) hB).below hW (Nat.le_refl _)) (by omega) ?_
        simp only [VT.deeper, hp, Bool.true_and, Bool.or_eq_false_iff] at hdp
        cases hb : (ch x).deeper (room - 1) with
        | false => rfl
        | true =>
          rw [anyN_yes (f := fun j => (ch j).deeper (room - 1)) hx hb] at hdp
          cases hdp.2
      have hroom : isParted k = true → 0 < room := fun hp => by
        rcases Nat.eq_zero_or_pos room with h0 | h0
        · subst h0
          simp only [VT.deeper, hp, Bool.true_and, Bool.or_eq_false_iff] at hdp
          have := hdp.1
          simp at this
        · exact h0
      rcases (by omega : k = 1 ∨ k = 2 ∨ k = 3 ∨ k = 4 ∨ k = 5 ∨ k = 6 ∨ k = 7 ∨ k = 8 ∨ k = 9 ∨ k = 10) with rfl | rfl | rfl | rfl | rfl | rfl | rfl | rfl | rfl | rfl
      · exact rof_1 B w d i room m s nm a n cap ch hd hB hi hv hk.symm hset
      · exact rof_2 B w d i room m s nm a n cap ch hd hB hi hv hk.symm hset
      · exact rof_3 B w d i room m s nm a n cap ch hd hB hi hv hk.symm hset
      · exact rof_4 B w d i room m s nm a n cap ch hd hB hi hv hk.symm hset
      · exact rof_5 B w d i room m s nm a n cap ch hd hB hi hv hk.symm hset
      · exact rof_6 B w d i room m s nm a n cap ch hd hB hi hv hk.symm hset
      · exact rof_7 B w d i room m s nm a n cap ch hd hB hi hv hk.symm hset
      · refine rof_8 B w d i room m s nm a n cap ch hd hB hi hk.symm (hroom (by decide)) fun W hW => ?_
        exact rseq_ok w.heap.size W d (d.f i) room m s nm a n cap ch (((hd.2 i hi).below (Below.refl _ _) hB).below hW (Nat.le_refl _)) hW.size ((hv.below (Below.refl _ _) hB).below hW (Nat.le_refl _)) (hroom (by decide)) hrm (by omega) (fun q hq => (FT.ok_t (hrow.part hq).2).1) (fun x q hx hq W2 hW2 => hrec x _ hx (FT.ok_t (hrow.part hq).2).2 (hroom (by decide)) (by decide) W2 (hW.trans (hW2.mono hW.size)))
      · have he := hrow.elem_t hk.symm
        exact rof_9 B w d i room m s nm a n cap ch hd hB hi hv hk.symm hset (hroom (by decide)) hrm he.1 (fun x hx W hW => hrec x _ hx he.2 (hroom (by decide)) (by decide) W hW)
      · exact rof_10 B w d i room m s nm a n cap ch hd hB hi hv hk.symm hset (hroom (by decide)) hrm (by omega) (fun q hq => (FT.ok_t (hrow.part hq).2).1) (fun q hq h0 W hW => hrec 0 _ h0 (FT.ok_t (hrow.part hq).2).2 (hroom (by decide)) (by decide) W hW)
    · have hf : (VT.mk k m s nm a n cap ch).has d i = false := by
        simp only [VT.has, beq_eq_false_iff_ne.2 hk, Bool.false_and]
      rw [hf]
      exact rof_no B w d i room k m s nm a n cap ch hd hB hi hk
end Go.Proofs.YtjhecpkdpomkmaaGreat
