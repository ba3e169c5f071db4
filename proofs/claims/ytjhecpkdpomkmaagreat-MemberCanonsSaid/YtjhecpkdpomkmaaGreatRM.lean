/-
  A bundle of texts, one behind the other: McQ, McR, McY.
-/
import Derived.Test.YtjhecpkdpomkmaaGreatRL
import Derived.Test.YtjhecpkdpomkmaaGreatRE
import Derived.Test.YtjhecpkdpomkmaaGreatRA
import Derived.Test.YtjhecpkdpomkmaaGreatQW
namespace Go.Proofs.YtjhecpkdpomkmaaGreat
open Go.RowKit
set_option linter.unusedVariables false
set_option linter.unusedSimpArgs false
set_option maxRecDepth 100000

set_option maxHeartbeats 16000000 in
theorem rRight14_ok (B : Nat) (w : World) (d : TB) (hd : TBIn B w d) (hB : B ≤ w.heap.size) (hs : ∀ i, i < d.n → rowSm (d.f i)) :
    Calls Tryz.prog 91 #[.slice d.a d.n d.cap] w fun e w' => e = .returned (.bool d.right) ∧ Below w.heap.size w w' := by
  obtain ⟨res, hres⟩ : ∃ r, d.right = r := ⟨_, rfl⟩
  rw [hres]
  unfold TB.right at hres
  obtain ⟨p, hp⟩ : ∃ p, (fun i => (d.f i).right d.n) = p := ⟨_, rfl⟩
  rw [hp] at hres
  have HP := Lib.hid (show ∀ i, p i = (d.f i).right d.n from fun i => by rw [← hp])
  have HRES := Lib.hid hres
  have HD := Lib.hid hd
  have HDI := Lib.hid (fun (W : World) (hW : Below w.heap.size w W) (i : Nat) (hi : i < d.n) => ((hd.2 i hi).below (Below.refl w.heap.size w) hB).below hW (Nat.le_refl _))
  have HSM := Lib.hid hs
  have HBB := Lib.hid hB
  have HB0 := Lib.hid (Below.refl w.heap.size w)
  obtain ⟨n, hn⟩ : ∃ n, d.n = n := ⟨_, rfl⟩
  have HNE := Lib.hid hn
  rw [hn] at HRES HP HDI HSM ⊢
  clear hd hB hs hres hp hn
  by_cases h0 : n = 0
  · have q1 : ((n : Int) == 0) = true := by simp [h0]
    have HZ := Lib.hid (show res = false from by rw [← HRES.out, decide_eq_false (show ¬ 0 < n by omega)]; rfl)
    clear h0
    go_enter Tryz.func91, Tryz.ntmps91
    go_wp2_with fail
    go_ret
    exact ⟨by rw [HZ.out]; rfl, HB0.out⟩
  have q1 : ((n : Int) == 0) = false := beq_eq_false_iff_ne.2 (by omega)
  by_cases h1 : 4096 < n
  · have q2 : decide ((4096 : Int) < (n : Int)) = true := decide_eq_true (by omega)
    have q2n : decide (4096 < n) = true := decide_eq_true h1
    have HZ := Lib.hid (show res = false from by rw [← HRES.out, decide_eq_false (show ¬ n ≤ 4096 by omega), Bool.and_false]; rfl)
    clear h0 h1
    go_enter Tryz.func91, Tryz.ntmps91
    go_wp2_with fail
    go_ret
    exact ⟨by rw [HZ.out]; rfl, HB0.out⟩
  have q2 : decide ((4096 : Int) < (n : Int)) = false := decide_eq_false (by omega)
  have q2n : decide (4096 < n) = false := decide_eq_false h1
  have HRP := Lib.hid (show res = allN p n from by rw [← HRES.out, decide_eq_true (show 0 < n by omega), decide_eq_true (show n ≤ 4096 by omega)]; rfl)
  have HNK := Lib.hid (show n ≤ 4096 by omega)
  clear h0 h1
  go_enter Tryz.func91, Tryz.ntmps91
  go_wp2_with fail
  go_loopw [3] (fun iv wr => RelEv w n p iv wr) (fun iv _ => n - (Lib.intOf iv).toNat)
  case atStart => exact ⟨0, Nat.zero_le _, rfl, rfl, HB0.out⟩
  case round =>
    obtain ⟨i, hi, rfl, hall, hbel⟩ := hrel
    have HA := Lib.hid hall
    have HB := Lib.hid hbel
    clear hall hbel
    by_cases hlt : i < n
    · have t1 : decide ((i : Int) < (n : Int)) = true := decide_eq_true (by omega)
      have t1n : decide (i < n) = true := decide_eq_true hlt
      have t3 : IntKind.i64.wrap ((i : Int) + 1) = ((i + 1 : Nat) : Int) := wrap_succ hlt (by have := HNK.out; omega)
      obtain ⟨gx, ox, hix, hgx, hrd⟩ := HD.out.1.read 22 46 Tryz.underlying22 (by kernel_rfl) Tryz.sizeOf46 (show i < d.n by have := HNE.out; omega)
      rw [HNE.out] at hix
      have HRA := Lib.hid (show wr.rangeAt gx ox (d.f i).cells from fun j u hj => hrd wr (HB.out.block gx (by have := HBB.out; omega)) j u hj)
      have HRW := Lib.hid (rrow_ok w.heap.size wr n (d.f i) (HDI.out wr HB.out i hlt) HB.out.size (HSM.out i hlt) (by have := HNK.out; omega))
      rw [← HP.out] at HRW
      have HO := Lib.hid (one_dcells15 (d.f i))
      have HSU := Lib.hid (fun h => allN_succ (f := p) (n := i) HA.out h)
      have HFA := Lib.hid (show p i = false → res = false from fun h => by rw [HRP.out]; exact allN_no (f := p) hlt h)
      generalize (d.f i).cells = cl at *
      generalize p i = z at *
      clear hrd hgx
      go_wp2_with (refine wpList_load_mid rfl 46 (.tmp 22) rfl gx ox rfl cl _ HRA.out Tryz.underlying46 rfl (by rw [info_D12, HO.out.1]) ?_)
      refine HRW.out.mono ?_
      rintro e w2 ⟨rfl, h2⟩
      have HB2 := Lib.hid (HB.out.trans (h2.mono HB.out.size))
      clear h2
      cases z with
      | false =>
        have HZ := Lib.hid (HFA.out (by first | rfl | trivial))
        go_wp2_with fail
        go_ret
        exact ⟨by rw [HZ.out]; rfl, HB2.out⟩
      | true =>
        have HN := Lib.hid (HSU.out (by first | rfl | trivial))
        go_wp2_with fail
        go_roundw
        case rel => exact ⟨i + 1, hlt, rfl, HN.out, HB2.out⟩
        case measure => simp only [Lib.intOf]; omega
    · have t1 : decide ((i : Int) < (n : Int)) = false := decide_eq_false (by omega)
      have t1n : decide (i < n) = false := decide_eq_false hlt
      obtain rfl : i = n := by omega
      have HZ := Lib.hid (show res = true from by rw [HRP.out, HA.out])
      go_wp2_with fail
      go_ret
      exact ⟨by rw [HZ.out]; rfl, HB.out⟩
end Go.Proofs.YtjhecpkdpomkmaaGreat

namespace Go.Proofs.YtjhecpkdpomkmaaGreat
open Go.RowKit
set_option linter.unusedVariables false
set_option linter.unusedSimpArgs false
set_option maxRecDepth 100000

theorem dfl_deeper {v : VT} (h : isDfl v.k = true) (m : Nat) : v.deeper m = false := by
  cases v with
  | nil => rfl
  | mk k m0 s nm a n cap ch =>
    have : isParted k = false := by
      simp only [isDfl, VT.k, Bool.or_eq_true, beq_iff_eq] at h
      rcases h with ((rfl | rfl) | rfl) | rfl <;> rfl
    simp [VT.deeper, this]
set_option maxHeartbeats 32000000 in
theorem rRight15_ok (B : Nat) (w : World) (d : TB) (hd : TBIn B w d) (hB : B ≤ w.heap.size) (hs : ∀ i, i < d.n → rowSm (d.f i)) :
    Calls Tryz.prog 56 #[.slice d.a d.n d.cap] w fun e w' => e = .returned (.bool d.good) ∧ Below w.heap.size w w' := by
  obtain ⟨res, hres⟩ : ∃ r, d.good = r := ⟨_, rfl⟩
  rw [hres]
  unfold TB.good at hres
  obtain ⟨p, hp⟩ : ∃ p, (fun i => (d.f i).defsOk d) = p := ⟨_, rfl⟩
  rw [hp] at hres
  have HP := Lib.hid (show ∀ i, p i = (d.f i).defsOk d from fun i => by rw [← hp])
  have HRES := Lib.hid hres
  have HD := Lib.hid hd
  have HDT := Lib.hid (fun (W : World) (hW : Below w.heap.size w W) => (hd.below (Below.refl w.heap.size w) hB).below hW (Nat.le_refl _))
  have HSM := Lib.hid hs
  have HBB := Lib.hid hB
  have HB0 := Lib.hid (Below.refl w.heap.size w)
  have HR14 := Lib.hid (rRight14_ok B w d hd hB hs)
  obtain ⟨n, hn⟩ : ∃ n, d.n = n := ⟨_, rfl⟩
  have HNE := Lib.hid hn
  have HHR := Lib.hid (show d.right = true → n ≤ 4096 ∧ (∀ i, i < n → RightRow (d.f i) n) ∧ ∀ (W : World), Below w.heap.size w W → ∀ (v : VT) (t : Nat), VIn W.heap.size W v → t < n → isDfl v.k = true → Calls Tryz.prog 58 #[.slice d.a n d.cap, .int .i64 (t : Nat), .agg v.cells.toArray, .int .i64 40] W fun e w' => e = .returned (.bool (v.has d t)) ∧ Below W.heap.size W w' from fun hr => by
    rw [← hn]
    exact ⟨(TB.right_n hr).2, fun i hi => TB.right_row hr hi, fun W hW v t hv ht hk => rof_ok v W.heap.size W d t 40 ((HDT.out W hW).below (Below.refl _ _) hW.size) (Nat.le_refl _) hr (fun j hj => by have := (hs j hj).1; omega) ht hv (by omega) (dfl_deeper hk 40)⟩)
  rw [hn] at HRES HR14 HSM ⊢
  generalize d.right = dr at *
  clear hd hB hs hres hp hn
  go_enter Tryz.func56, Tryz.ntmps56
  go_wp2_with fail
  refine HR14.out.mono ?_
  rintro e W0 ⟨rfl, h2⟩
  have HBZ := Lib.hid (HB0.out.trans (h2.mono HB0.out.size))
  clear h2
  cases dr with
  | false =>
    have HZ := Lib.hid (show res = false from HRES.out.symm)
    go_wp2_with fail
    go_ret
    exact ⟨by rw [HZ.out]; rfl, HBZ.out⟩
  | true =>
  obtain ⟨hn4, hrows, hof⟩ := HHR.out (by first | rfl | trivial)
  have HRP := Lib.hid (show res = allN p n from by rw [← HRES.out]; rfl)
  have HNK := Lib.hid hn4
  have HRO := Lib.hid hrows
  have HOF := Lib.hid hof
  clear hn4 hrows hof HHR
  go_wp2_with fail
  go_loopw [3] (fun iv wr => RelEv w n p iv wr) (fun iv _ => n - (Lib.intOf iv).toNat)
  case atStart => exact ⟨0, Nat.zero_le _, rfl, rfl, HBZ.out⟩
  case round =>
    obtain ⟨i, hi, rfl, hall, hbel⟩ := hrel
    have HA := Lib.hid hall
    have HB := Lib.hid hbel
    clear hall hbel
    by_cases hlt : i < n
    · have t1 : decide ((i : Int) < (n : Int)) = true := decide_eq_true (by omega)
      have t1n : decide (i < n) = true := decide_eq_true hlt
      have t3 : IntKind.i64.wrap ((i : Int) + 1) = ((i + 1 : Nat) : Int) := wrap_succ hlt (by have := HNK.out; omega)
      obtain ⟨gx, ox, hix, hgx, hrd⟩ := HD.out.1.read 22 46 Tryz.underlying22 (by kernel_rfl) Tryz.sizeOf46 (show i < d.n by have := HNE.out; omega)
      rw [HNE.out] at hix
      have HRA := Lib.hid (show wr.rangeAt gx ox (d.f i).cells from fun j u hj => hrd wr (HB.out.block gx (by have := HBB.out; omega)) j u hj)
      have hdi := (HDT.out wr HB.out).2 i (by have := HNE.out; omega)
      have HFI := Lib.hid (Fields_ok w.heap.size wr (d.f i) hdi HB.out.size (by have := (HSM.out i hlt).2.2.2.1; omega) (by have := (HSM.out i hlt).2.2.2.2.1; omega))
      have HPI := Lib.hid (fun (W : World) (hW : Below w.heap.size w W) (k : Nat) (hk : k < (d.f i).count) => (((HDT.out W hW).2 i (by have := HNE.out; omega)).part hk : FTIn w.heap.size W ((d.f i).part k)))
      have HPK := Lib.hid (fun (k : Nat) (hk : k < (d.f i).count) => ((HRO.out i hlt).part hk).2)
      have HCT := Lib.hid (show (d.f i).count ≤ 2000 by have h1 := (HSM.out i hlt).2.2.2.1; have h2 := (HSM.out i hlt).2.2.2.2.1; unfold DT.count; omega)
      have HO := Lib.hid (one_dcells15 (d.f i))
      have HSU := Lib.hid (fun h => allN_succ (f := p) (n := i) HA.out h)
      have HFA := Lib.hid (show p i = false → res = false from fun h => by rw [HRP.out]; exact allN_no (f := p) hlt h)
      have hpi := HP.out i
      unfold DT.defsOk at hpi
      obtain ⟨q, hq⟩ : ∃ q, (fun k => allN (fun j => isDfl (((d.f i).part k).d.f j).k && (((d.f i).part k).d.f j).has d ((d.f i).part k).t.toNat) ((d.f i).part k).d.n) = q := ⟨_, rfl⟩
      rw [hq] at hpi
      have HQ := Lib.hid (show ∀ k, q k = allN (fun j => isDfl (((d.f i).part k).d.f j).k && (((d.f i).part k).d.f j).has d ((d.f i).part k).t.toNat) ((d.f i).part k).d.n from fun k => by rw [← hq])
      have HPQ := Lib.hid hpi
      obtain ⟨N, hN⟩ : ∃ x, (d.f i).count = x := ⟨_, rfl⟩
      rw [hN] at HFI HPI HPK HCT HPQ
      generalize (d.f i).cells = cl at *
      clear hrd hgx hdi hpi hq hN
      go_wp2_with (refine wpList_load_mid rfl 46 (.tmp 17) rfl gx ox rfl cl _ HRA.out Tryz.underlying46 rfl (by rw [info_D12, HO.out.1]) ?_)
      refine HFI.out.mono ?_
      rintro e w2 ⟨v, rfl, ⟨av, cv, rfl, hcv, hrow⟩, h2⟩
      have HB2 := Lib.hid (HB.out.trans (h2.mono HB.out.size))
      have HROW := Lib.hid hrow
      clear h2 hrow
      go_wp2_with fail
      go_loopw [5] (fun kv wy => RelEv w2 N q kv wy) (fun kv _ => N - (Lib.intOf kv).toNat)
      case atStart => exact ⟨0, Nat.zero_le _, rfl, rfl, Below.refl _ _⟩
      case round =>
        rename World => wy
        obtain ⟨k, hk, rfl, hall, hbel⟩ := hrel
        have HAK := Lib.hid hall
        have HBR := Lib.hid hbel
        have HBT := Lib.hid (HB2.out.trans (hbel.mono HB2.out.size))
        clear hall hbel
        by_cases hkl : k < N
        · have r1 : decide ((k : Int) < (N : Int)) = true := decide_eq_true (by omega)
          have r1n : decide (k < N) = true := decide_eq_true hkl
          have r3 : IntKind.i64.wrap ((k : Int) + 1) = ((k + 1 : Nat) : Int) := wrap_succ hkl (by have := HCT.out; omega)
          obtain ⟨gy, oy, hiy, hgb, hgy, hry⟩ := HROW.out k hkl
          have hcy := fun (W : World) (hb : Below wy.heap.size wy W) (j : Nat) (u : Value) (hu : ((d.f i).part k).cells[j]? = some u) => ((HBR.out.trans (hb.mono HBR.out.size)).cell (p := ⟨gy, oy + j, none⟩) hgy).trans (hry j u hu)
          have HKS := Lib.hid (fun h => allN_succ (f := q) (n := k) HAK.out h)
          have HKF := Lib.hid (show q k = false → res = false from fun h => HFA.out (by rw [HPQ.out]; exact allN_no (f := q) hkl h))
          have HQK := Lib.hid (HQ.out k)
          have hpo := HPK.out k hkl
          have hfin := HPI.out wy HBT.out k hkl
          obtain ⟨tj, htj⟩ : ∃ x, ((d.f i).part k).t.toNat = x := ⟨_, rfl⟩
          obtain ⟨htz, htn⟩ := FT.ok_t hpo
          have hdn := FT.ok_d hpo
          have hte : ((d.f i).part k).t = ((tj : Nat) : Int) := by omega
          rw [htj] at HQK htn
          have HDV := Lib.hid (show ∀ W, Below wy.heap.size wy W → W.cell? ⟨gy, oy + 3, none⟩ = some (.slice ((d.f i).part k).d.a ((d.f i).part k).d.n ((d.f i).part k).d.cap) from fun W hb => hcy W hb 3 _ rfl)
          have HTV := Lib.hid (show ∀ W, Below wy.heap.size wy W → W.cell? ⟨gy, oy + 1, none⟩ = some (.int .i64 (tj : Nat)) from fun W hb => by
            have h := hcy W hb 1 (.int .i64 ((d.f i).part k).t) rfl
            rwa [hte] at h)
          have HDL := Lib.hid hfin.2.2
          have HTN := Lib.hid htn
          generalize ((d.f i).part k).d = dl at *
          clear hcy hry hgb hgy hpo hfin htj htz htn hte
          by_cases hd0 : dl.n = 0
          · have HN := Lib.hid (HKS.out (by rw [HQK.out, hd0]; rfl))
            have u1 : ((dl.n : Int) == 1) = false := beq_eq_false_iff_ne.2 (by omega)
            have e3 := HDV.out wy (Below.refl _ _)
            clear hd0 hdn
            go_upto_region 10 with fail
            go_quiet (fail)
            go_wp2_with fail
            go_roundw
            case rel => exact ⟨k + 1, hkl, rfl, HN.out, HBR.out.trans ⟨rfl, rfl, rfl, Nat.le_refl _, fun _ _ => rfl⟩⟩
            case measure => simp only [Lib.intOf]; omega
          · have hd1 : dl.n = 1 := by omega
            obtain ⟨ga, oa, hda, hga, hca⟩ := HDL.out.1.2.2.2 (by omega)
            have hv0 := HDL.out.2 0 (by omega)
            obtain ⟨k1, m1, s1, nm1, a1, n1, cap1, ch1, hcj⟩ := vin_mk hv0
            have hcell : (dl.f 0).cells = [.int .i64 k1, .int .i64 m1, .string s1, .slice nm1.a nm1.n nm1.cap, .slice a1 n1 cap1] := by rw [hcj, list5]
            have hk1 : (dl.f 0).k = k1 := by rw [hcj]; rfl
            have HQ1 := Lib.hid (show q k = (isDfl k1 && (dl.f 0).has d tj) from by rw [HQK.out, hd1]; simp [allN, hk1])
            have HOFK := Lib.hid (show isDfl k1 = true → ∀ W, Below wy.heap.size wy W → Calls Tryz.prog 58 #[.slice d.a n d.cap, .int .i64 (tj : Nat), .agg #[.int .i64 k1, .int .i64 m1, .string s1, .slice nm1.a nm1.n nm1.cap, .slice a1 n1 cap1], .int .i64 40] W fun e w' => e = .returned (.bool ((dl.f 0).has d tj)) ∧ Below W.heap.size W w' from fun hk W hb => by
              have h := HOF.out W (HBT.out.trans (hb.mono HBT.out.size)) (dl.f 0) tj ((hv0.below (Below.refl wy.heap.size wy) (by have := HBT.out.size; omega)).below hb (Nat.le_refl _) |>.below (Below.refl _ _) hb.size) HTN.out (by rw [hk1]; exact hk)
              rwa [hcell] at h)
            have HS := Lib.hid (show ∀ W, Below wy.heap.size wy W → (W.cell? ⟨gy, oy + 3, none⟩ = some (.slice (some ⟨ga, oa, none⟩) 1 dl.cap) ∧ W.cell? ⟨gy, oy + 1, none⟩ = some (.int .i64 (tj : Nat)) ∧ W.cell? ⟨ga, oa, none⟩ = some (.int .i64 k1) ∧ W.cell? ⟨ga, oa + 1, none⟩ = some (.int .i64 m1) ∧ W.cell? ⟨ga, oa + 2, none⟩ = some (.string s1) ∧ W.cell? ⟨ga, oa + 3, none⟩ = some (.slice nm1.a nm1.n nm1.cap) ∧ W.cell? ⟨ga, oa + 4, none⟩ = some (.slice a1 n1 cap1)) from fun W hb => by
              have hc : ∀ j u, (dl.f 0).cells[j]? = some u → W.cell? ⟨ga, oa + j, none⟩ = some u := fun j u hu => by
                have h2 := hca 0 (by omega) j u hu
                rw [Nat.zero_mul, Nat.add_zero] at h2
                exact (hb.cell (p := ⟨ga, oa + j, none⟩) (show ga < wy.heap.size by have := HBT.out.size; omega)).trans h2
              have h1 := HDV.out W hb
              rw [hda, hd1] at h1
              refine ⟨h1, HTV.out W hb, ?_, hc 1 _ (by rw [hcell]; rfl), hc 2 _ (by rw [hcell]; rfl), hc 3 _ (by rw [hcell]; rfl), hc 4 _ (by rw [hcell]; rfl)⟩
              have h3 := hc 0 (.int .i64 k1) (by rw [hcell]; rfl)
              rwa [Nat.add_zero] at h3)
            have HSIM := Lib.hid (fun (W : World) => rsimple_ok W k1)
            have HC1 := Lib.hid (show 1 ≤ dl.cap by have := HDL.out.1.1; omega)
            have t9 : decide ((0 : Int) < (1 : Int)) = true := by decide
            have u1 : ((1 : Int) == 1) = true := rfl
            generalize (dl.f 0).has d tj = hz at *
            clear hda hga hca hv0 hcj hcell hk1 hd0 hd1 hdn
            obtain ⟨df, hdf⟩ : ∃ x, isDfl k1 = x := ⟨_, rfl⟩
            rw [hdf] at HOFK HQ1 HSIM
            clear hdf
            have HBX0 := Lib.hid (Below.drew (Below.refl wy.heap.size wy))
            have HS0 := Lib.hid (HS.out _ HBX0.out)
            go_upto_region 10 with fail
            cases df with
            | false =>
              have HZ := Lib.hid (HKF.out HQ1.out)
              obtain ⟨g3, g1, y0, y1, y2, y3, y4⟩ := HS.out wy (Below.refl _ _)
              go_quiet (exact Calls.quiet_of_same ((HSIM.out _).mono fun e w' h => ⟨h.1, h.2⟩))
              go_wp2_with fail
              go_ret
              exact ⟨by rw [HZ.out]; rfl, HBT.out.trans ⟨rfl, rfl, rfl, Nat.le_refl _, fun _ _ => rfl⟩⟩
            | true =>
              have HOFL := Lib.hid (HOFK.out (by first | rfl | trivial))
              have HQ2 := Lib.hid (show q k = hz from HQ1.out)
              go_region_held3 (fun W => W.cell? ⟨gy, oy + 3, none⟩ = some (.slice (some ⟨ga, oa, none⟩) 1 dl.cap) ∧ W.cell? ⟨gy, oy + 1, none⟩ = some (.int .i64 (tj : Nat)) ∧ W.cell? ⟨ga, oa, none⟩ = some (.int .i64 k1) ∧ W.cell? ⟨ga, oa + 1, none⟩ = some (.int .i64 m1) ∧ W.cell? ⟨ga, oa + 2, none⟩ = some (.string s1) ∧ W.cell? ⟨ga, oa + 3, none⟩ = some (.slice nm1.a nm1.n nm1.cap) ∧ W.cell? ⟨ga, oa + 4, none⟩ = some (.slice a1 n1 cap1)) (first | with_reducible exact HS1.out | with_reducible exact HS0.out) (first
                | (go_at_call 58; (with_reducible refine (HOFL.out _ HBX0.out).mono ?_); rintro e w3 ⟨rfl, h3⟩; have HBX1 := Lib.hid (HBX0.out.trans (h3.mono HBX0.out.size)); have HS1 := Lib.hid (HS.out _ HBX1.out); clear h3)
                | (go_at_call 92; (with_reducible refine (HSIM.out _).mono ?_); rintro e w3 ⟨rfl, hw3⟩; obtain rfl := hw3.symm))
              cases hz with
              | false =>
                have HZ := Lib.hid (HKF.out HQ2.out)
                go_wp2_with fail
                go_ret
                exact ⟨by rw [HZ.out]; rfl, HBT.out.trans (HBX1.out.mono HBT.out.size)⟩
              | true =>
                have HN := Lib.hid (HKS.out HQ2.out)
                go_wp2_with fail
                go_roundw
                case rel => exact ⟨k + 1, hkl, rfl, HN.out, HBR.out.trans (HBX1.out.mono HBR.out.size)⟩
                case measure => simp only [Lib.intOf]; omega
        · have r1 : decide ((k : Int) < (N : Int)) = false := decide_eq_false (by omega)
          have r1n : decide (k < N) = false := decide_eq_false hkl
          obtain rfl : k = N := by omega
          have HN := Lib.hid (HSU.out (by rw [HPQ.out]; exact HAK.out))
          go_wp2_with fail
          go_roundw
          case rel => exact ⟨i + 1, hlt, rfl, HN.out, HBT.out⟩
          case measure => simp only [Lib.intOf]; omega
    · have t1 : decide ((i : Int) < (n : Int)) = false := decide_eq_false (by omega)
      have t1n : decide (i < n) = false := decide_eq_false hlt
      obtain rfl : i = n := by omega
      have HZ := Lib.hid (show res = true from by rw [HRP.out, HA.out])
      go_wp2_with fail
      go_ret
      exact ⟨by rw [HZ.out]; rfl, HB.out⟩
theorem rCheck15 (B : Nat) (w : World) (d : TB) (v : VT) (hd : TBIn B w d) (hv : VIn B w v) (hB : B ≤ w.heap.size) (hs : ∀ i, i < d.n → rowSm (d.f i)) :
    Calls Tryz.prog 36 #[.slice d.a d.n d.cap, .agg v.cells.toArray] w fun e w' => e = .returned (.int .i64 (chk d v)) ∧ Below w.heap.size w w' :=
  rCheck15_ok B w d v hd hv hB (fun i hi => by have := (hs i hi).1; omega) fun W hW => rRight15_ok w.heap.size W d ((hd.below (Below.refl _ _) hB).below hW (Nat.le_refl _)) hW.size hs
end Go.Proofs.YtjhecpkdpomkmaaGreat

namespace Go.Proofs.YtjhecpkdpomkmaaGreat
open Go.RowKit
set_option linter.unusedVariables false
set_option linter.unusedSimpArgs false
set_option maxRecDepth 100000

set_option maxHeartbeats 4000000 in
theorem rAt_ok : ∀ (v : VT) (B : Nat) (w : World) (d : TB) (i : Nat), TBIn B w d → B ≤ w.heap.size → d.good = true → i < d.n → VIn B w v → v.has d i = true →
    Calls Tryz.prog 37 #[.slice d.a d.n d.cap, .int .i64 (i : Nat), .agg v.cells.toArray] w (CompOut w (v.full d i))
  | .nil, _, _, _, _, _, _, _, _, hx, _ => hx.elim
  | .mk k m s nm a n cap ch, B, w, d, i, hd, hB, hg, hi, hx, hh => by
    have hrec : ∀ j, j < n → ∀ t, t < d.n → (ch j).has d t = true → ∀ W, Below w.heap.size w W → Calls Tryz.prog 37 #[.slice d.a d.n d.cap, .int .i64 (t : Nat), .agg (ch j).cells.toArray] W (CompOut W ((ch j).full d t)) := fun j hj t ht hhj W hW =>
      rAt_ok (ch j) w.heap.size W d t ((hd.below (Below.refl _ _) hB).below hW (Nat.le_refl _)) hW.size hg ht (((hx.below (Below.refl _ _) hB).below hW (Nat.le_refl _)).2.2 j hj) hhj
    have hrow := TB.right_row (TB.good_right hg) hi
    by_cases h9 : (d.f i).kind = 9
    · obtain ⟨_, _, hsz, hall⟩ := (has_9 h9).1 hh
      simp only [DT.isSize, Bool.and_eq_true, decide_eq_true_eq] at hsz
      have he := hrow.elem_t h9
      exact rAt_9 B w d i k m s nm a n cap ch hd hB hi h9 hx hsz.1 (d.f i).elem.toNat (by omega) fun j hj W hW => hrec j hj _ he.2 (hall j hj) W hW
    · by_cases h10 : (d.f i).kind = 10
      · obtain ⟨_, _, hf, hn, h7⟩ := (has_10 h10).1 hh
        have ht := FT.ok_t (hrow.part hf).2
        exact rAt_10 B w d i k m s nm a n cap ch hd hB hi h10 hx hn (TB.good_right hg) hf ((d.f i).part ((d.f i).fnd s)).t.toNat (by omega) fun W hW => hrec 0 (by omega) _ ht.2 h7 W hW
      · by_cases h8 : (d.f i).kind = 8
        · obtain ⟨_, _, hn, h7⟩ := (has_8 h8).1 hh
          exact rAt_8 B w d i k m s nm a n cap ch hd hB hi h8 hx hn hg h7 hrec
        · refine (rAt_leaf B w d i k m s nm a n cap ch hd hB hi h8 h9 h10).mono fun e w' h => ?_
          exact ⟨leafV k m s, h.1, leafV_in _ _ hx.1.1 hx.1.2.1 hx.1.2.2.1, leafV_blk _ _ _ _, leafV_full h8 h9 h10, h.2⟩
set_option maxHeartbeats 16000000 in
theorem rCanon15_ok (B : Nat) (w : World) (d : TB) (v : VT) (hd : TBIn B w d) (hv : VIn B w v) (hB : B ≤ w.heap.size) (hs : ∀ i, i < d.n → rowSm (d.f i)) :
    Calls Tryz.prog 14 #[.slice d.a d.n d.cap, .agg v.cells.toArray] w (CanonOut w d v) := by
  have hb0 := (Below.refl w.heap.size w).alloc (Nat.le_refl _) (.cells v.cells.toArray 26)
  have hb1 := hb0.alloc hb0.size (.cells zeroL.toArray 26)
  have hxa := (Bx.new w v.cells.toArray 26).alloc (.cells zeroL.toArray 26)
  have hxb := Bx.new (w.alloc (.cells v.cells.toArray 26)) zeroL.toArray 26
  rw [World.size_alloc] at hxb
  have HSZ := Lib.hid (show ((w.alloc (.cells v.cells.toArray 26)).alloc (.cells zeroL.toArray 26)).heap.size = w.heap.size + 1 + 1 from by simp only [World.size_alloc])
  have HD := Lib.hid (fun (W : World) (hW : Below w.heap.size w W) => (hd.below (Below.refl _ _) hB).below hW (Nat.le_refl _))
  have HV := Lib.hid (fun (W : World) (hW : Below w.heap.size w W) => (hv.below (Below.refl _ _) hB).below hW (Nat.le_refl _))
  have HC := Lib.hid (fun (W : World) (hW : Below w.heap.size w W) => rCheck15 w.heap.size W d v (HD.out W hW) (HV.out W hW) hW.size hs)
  have HGO := Lib.hid (show chk d v = 0 → ∀ W, Below w.heap.size w W → Calls Tryz.prog 37 #[.slice d.a d.n d.cap, .int .i64 0, .agg v.cells.toArray] W (CompOut W (v.full d 0)) from fun h0 W hW => by
    obtain ⟨hg, _, hh⟩ := chk_zero.1 h0
    exact rAt_ok v w.heap.size W d 0 (HD.out W hW) hW.size hg (TB.right_n (TB.good_right hg)).1 (HV.out W hW) hh)
  obtain ⟨k0, m0, s0, nm0, a0, n0, cap0, c0, hv0⟩ := vin_mk hv
  have hcl : v.cells = [.int .i64 k0, .int .i64 m0, .string s0, .slice nm0.a nm0.n nm0.cap, .slice a0 n0 cap0] := by rw [hv0, list5]
  unfold CanonOut
  generalize v.full d 0 = FU at *
  generalize chk d v = q at *
  rw [hcl] at hxa hxb hb1 HSZ HC HGO ⊢
  unfold zeroL at hxa hxb hb1 HSZ ⊢
  have HXA := Lib.hid hxa
  have HXB := Lib.hid hxb
  have HB1 := Lib.hid hb1
  have c0 := hxa.cell 0 (v := .int .i64 k0) rfl
  have c1 := hxa.cell 1 (v := .int .i64 m0) rfl
  have c2 := hxa.cell 2 (v := .string s0) rfl
  have c3 := hxa.cell 3 (v := .slice nm0.a nm0.n nm0.cap) rfl
  have c4 := hxa.cell 4 (v := .slice a0 n0 cap0) rfl
  clear hb0 hb1 hxa hxb hd hv hB hs HD HV hcl hv0
  go_enter Tryz.func14, Tryz.ntmps14
  go_wp2_with fail
  refine (HC.out _ HB1.out).mono ?_
  generalize (w.alloc (.cells #[.int .i64 k0, .int .i64 m0, .string s0, .slice nm0.a nm0.n nm0.cap, .slice a0 n0 cap0] 26)).alloc (.cells #[.int .i64 0, .int .i64 0, .string ⟨#[]⟩, .slice none 0 0, .slice none 0 0] 26) = W1 at *
  rintro e w2 ⟨rfl, h2⟩
  have HB2 := Lib.hid (HB1.out.trans (h2.mono HB1.out.size))
  have HA2 := Lib.hid (HXA.out.below h2 (by rw [HSZ.out]; omega))
  have HX2 := Lib.hid (HXB.out.below h2 (by rw [HSZ.out]; omega))
  have HL2 := Lib.hid (show w.heap.size + 2 ≤ w2.heap.size from by have h := h2.size; rw [HSZ.out] at h; omega)
  clear h2 c0 c1 c2 c3 c4
  by_cases hq : q = 0
  · subst hq
    have HAT := Lib.hid (HGO.out rfl)
    obtain ⟨c0, c1, c2, c3, c4⟩ := fiveX HA2.out
    clear HGO
    go_wp2_with fail
    refine (HAT.out _ HB2.out).mono ?_
    rintro e w5 ⟨v1, rfl, hvi, hvb, hfu, h5⟩
    obtain ⟨k1, m1, s1, nm1, a1, n1, cap1, ch1, rfl⟩ := vin_mk hvi
    rw [list5]
    have HB5 := Lib.hid (HB2.out.trans (h5.mono HB2.out.size))
    have HX5 := Lib.hid (HX2.out.below h5 (by have := HL2.out; omega))
    have HV1 := Lib.hid hvi
    have HVB := Lib.hid hvb
    have HFU := Lib.hid hfu
    clear h5 hvi hvb hfu c0 c1 c2 c3 c4
    go_wp2_with (refine wpList_store_bx rfl 26 (.tmp 4) (.tmp 16) rfl 5 (w.heap.size + 1) _ [.int .i64 k1, .int .i64 m1, .string s1, .slice nm1.a nm1.n nm1.cap, .slice a1 n1 cap1] HX5.out (by rfl) (by rfl) info_V (by simp [Value.oneCell']) rfl rfl ?_; intro w9 hz9 hx9 hb9 ho9; have HX9 := Lib.hid hx9; have HB9 := Lib.hid (HB5.out.trans (hb9.mono (by omega))); have HV9 := Lib.hid (VIn.frame (P := (w2.heap.size ≤ ·)) (W' := w9) (B' := w9.heap.size) (fun q _ hp => ho9 q (by have h1 : w2.heap.size ≤ q := hp; have h2 := HL2.out; omega)) (by rw [hz9]; exact Nat.le_refl _) HV1.out HVB.out); clear hz9 hx9 hb9 ho9)
    refine bodyPost_ret (v := .tuple #[.agg #[.int .i64 k1, .int .i64 m1, .string s1, .slice nm1.a nm1.n nm1.cap, .slice a1 n1 cap1], .int .i64 0]) ?_ rfl ⟨HB9.out, ⟨_, rfl, HV9.out, HVB.out.mono fun q hq => by show w.heap.size ≤ q; have h1 : w2.heap.size ≤ q := hq; have h2 := HL2.out; omega, HFU.out⟩⟩
    exact results_cell_tmp (p := 4) (q := 5) rfl _ _ (w.heap.size + 1) 26 _ (0, 0) _ rfl HX9.out Tryz.underlying26 rfl (by rw [info_V]; rfl)
  · have hqb : (q != 0) = true := bne_iff_ne.2 hq
    have hqb2 : (q == 0) = false := beq_eq_false_iff_ne.2 hq
    have HQ := Lib.hid hq
    clear HGO hq
    go_wp2_with (refine wpList_store_bx rfl 26 (.tmp 4) (.tmp 12) rfl 5 (w.heap.size + 1) _ [.int .i64 0, .int .i64 0, .string ⟨#[]⟩, .slice none 0 0, .slice none 0 0] HX2.out (by rfl) (by rfl) info_V (by simp [Value.oneCell']) rfl rfl ?_; intro w5 hz5 hx5 hb5 ho5; have HX5 := Lib.hid hx5; have HB5 := Lib.hid (HB2.out.trans (hb5.mono (by omega))); clear hz5 hx5 hb5 ho5)
    refine bodyPost_ret (v := .tuple #[.agg #[.int .i64 0, .int .i64 0, .string ⟨#[]⟩, .slice none 0 0, .slice none 0 0], .int .i64 q]) ?_ rfl ⟨HB5.out, .inr ⟨HQ.out, rfl⟩⟩
    exact results_cell_tmp (p := 4) (q := 5) rfl _ _ (w.heap.size + 1) 26 _ (0, 0) _ rfl HX5.out Tryz.underlying26 rfl (by rw [info_V]; rfl)
set_option maxHeartbeats 8000000 in
theorem rSame15_ok (B : Nat) (w : World) (x y : VT) (hx : VIn B w x) (hy : VIn B w y) (hB : B ≤ w.heap.size) :
    Calls Tryz.prog 15 #[.agg x.cells.toArray, .agg y.cells.toArray] w fun e w' => e = .returned (.bool (x.same y)) ∧ Below w.heap.size w w' := by
  have hsm := fun (W : World) (hW : Below w.heap.size w W) => rsameValue_ok x y w.heap.size W ((hx.below (Below.refl _ _) hB).below hW (Nat.le_refl _)) ((hy.below (Below.refl _ _) hB).below hW (Nat.le_refl _)) hW.size
  obtain ⟨k, m, s, nm, a, n, cap, ch, hx0⟩ := vin_mk hx
  obtain ⟨k', m', s', nm', a', n', cap', ch', hy0⟩ := vin_mk hy
  have e1 : x.cells = [.int .i64 k, .int .i64 m, .string s, .slice nm.a nm.n nm.cap, .slice a n cap] := by rw [hx0, list5]
  have e2 : y.cells = [.int .i64 k', .int .i64 m', .string s', .slice nm'.a nm'.n nm'.cap, .slice a' n' cap'] := by rw [hy0, list5]
  rw [e1, e2] at hsm ⊢
  have HS := Lib.hid hsm
  generalize x.same y = z at *
  have hb0 := ((Below.refl w.heap.size w).alloc (Nat.le_refl _) (.cells #[.int .i64 k, .int .i64 m, .string s, .slice nm.a nm.n nm.cap, .slice a n cap] 26)).alloc (by simp) (.cells #[.int .i64 k', .int .i64 m', .string s', .slice nm'.a nm'.n nm'.cap, .slice a' n' cap'] 26)
  have hx1 := (Bx.new w #[.int .i64 k, .int .i64 m, .string s, .slice nm.a nm.n nm.cap, .slice a n cap] 26).alloc (.cells #[.int .i64 k', .int .i64 m', .string s', .slice nm'.a nm'.n nm'.cap, .slice a' n' cap'] 26)
  have hx2 := Bx.new (w.alloc (.cells #[.int .i64 k, .int .i64 m, .string s, .slice nm.a nm.n nm.cap, .slice a n cap] 26)) #[.int .i64 k', .int .i64 m', .string s', .slice nm'.a nm'.n nm'.cap, .slice a' n' cap'] 26
  rw [World.size_alloc] at hx2
  have HB0 := Lib.hid hb0
  obtain ⟨c0, c1, c2, c3, c4⟩ := fiveX hx1
  obtain ⟨d0, d1, d2, d3, d4⟩ := fiveX hx2
  clear hsm hx0 hy0 e1 e2 hx hy hB hb0 hx1 hx2
  go_enter Tryz.func15, Tryz.ntmps15
  go_wp2_with fail
  refine (HS.out _ HB0.out).mono ?_
  rintro e w2 ⟨rfl, h2⟩
  have HB2 := Lib.hid (HB0.out.trans (h2.mono HB0.out.size))
  clear h2 c0 c1 c2 c3 c4 d0 d1 d2 d3 d4
  go_wp2_with fail
  go_ret
  exact ⟨rfl, HB2.out⟩
/-- 'Canon', in one way -/
theorem CanonOut.one {w w' : World} {d : TB} {v : VT} {e : Ending} (h : CanonOut w d v e w') :
    Below w.heap.size w w' ∧ ∃ v', e = .returned (.tuple #[.agg v'.cells.toArray, .int .i64 (chk d v)]) ∧ VIn w'.heap.size w' v' ∧ (chk d v = 0 → v.full d 0 v') ∧ (chk d v ≠ 0 → v' = leafV 0 0 ⟨#[]⟩) := by
  obtain ⟨h1, ⟨h0, v', rfl, hvi, _, hfu⟩ | ⟨h0, rfl⟩⟩ := h
  · exact ⟨h1, v', by rw [h0], hvi, fun _ => hfu, fun hn => absurd h0 hn⟩
  · exact ⟨h1, leafV 0 0 ⟨#[]⟩, rfl, leafV_in _ _ (by unfold I64; omega) (by unfold I64; omega) (by decide), fun hz => absurd hz h0, fun _ => rfl⟩
theorem canon_same {d : TB} {v v2 v3 : VT} (h1 : chk d v = 0 → v.full d 0 v2) (h2 : chk d v = 0 → v.full d 0 v3) (h3 : chk d v ≠ 0 → v2 = leafV 0 0 ⟨#[]⟩) (h4 : chk d v ≠ 0 → v3 = leafV 0 0 ⟨#[]⟩) : v2.same v3 = true := by
  by_cases h0 : chk d v = 0
  · obtain ⟨hg, _, hh⟩ := chk_zero.1 h0
    exact full_det hg (TB.right_n (TB.good_right hg)).1 hh (h1 h0) (h2 h0)
  · rw [h3 h0, h4 h0]
    simp [VT.same, leafV, SL.same, noSL, allN, sEq_refl]
end Go.Proofs.YtjhecpkdpomkmaaGreat
