/-
  A bundle of texts, one behind the other: McW.
-/
import Derived.Test.YtjhecpkdpomkmaaGreatRC
import Derived.Test.YtjhecpkdpomkmaaGreatQS
namespace Go.Proofs.YtjhecpkdpomkmaaGreat
open Go.RowKit
set_option linter.unusedVariables false
set_option linter.unusedSimpArgs false
set_option maxRecDepth 100000

def RelA10 (W4 : World) (c A : Nat) (k m : Int) (s : ByteArray) (CN fd : Nat) (G : VT → Prop) (iv : Value) (wr : World) : Prop :=
  ∃ (j : Nat) (lv : Value) (y : Nat) (f : Nat → VT), j ≤ CN ∧ iv = .int .i64 (j : Nat) ∧ y = (if fd < j then 1 else 0) ∧ Bx wr c #[.int .i64 k, .int .i64 m, .string s, .slice none 0 0, lv] 26 ∧ CpS A wr (.slice none 0 0) 0 (fun _ => ⟨#[]⟩) lv y f ∧ (∀ i, i < y → G (f i)) ∧ AtK c W4 wr
set_option maxHeartbeats 64000000 in
theorem rAt_10 (B : Nat) (w : World) (d : TB) (i : Nat) (k m : Int) (s : ByteArray) (nm : SL) (a : Option Addr) (n cap : Nat) (ch : Nat → VT) (hd : TBIn B w d) (hB : B ≤ w.heap.size) (hi : i < d.n) (hk : (d.f i).kind = 10) (hx : VIn B w (.mk k m s nm a n cap ch)) (hn : n = 1) (hg : d.right = true) (hfd : (d.f i).fnd s < (d.f i).count) (t : Nat) (ht : ((d.f i).part ((d.f i).fnd s)).t = (t : Int))
    (hrec : ∀ W, Below w.heap.size w W → Calls Tryz.prog 37 #[.slice d.a d.n d.cap, .int .i64 (t : Nat), .agg (ch 0).cells.toArray] W (CompOut W ((ch 0).full d t))) :
    Calls Tryz.prog 37 #[.slice d.a d.n d.cap, .int .i64 (i : Nat), .agg (VT.mk k m s nm a n cap ch).cells.toArray] w (CompOut w ((VT.mk k m s nm a n cap ch).full d i)) := by
  obtain ⟨i0, hi0, hz0, hz1, hz2⟩ := info_Vz'
  have hrow := TB.right_row hg hi
  have HFW := Lib.hid hrow.few
  have HAPT := Lib.hid (fun (j : Nat) (hj : j < (d.f i).count) (h : sEq ((d.f i).part j).name s = true) => hrow.apart hj hfd ((sEq_iff.1 h).trans (sEq_iff.1 (fst_yes (fun k => sEq ((d.f i).part k).name s) (d.f i).count hfd)).symm))
  have HFY := Lib.hid (show sEq ((d.f i).part ((d.f i).fnd s)).name s = true from fst_yes (fun k => sEq ((d.f i).part k).name s) (d.f i).count hfd)
  have HREC := Lib.hid hrec
  have HVX := Lib.hid hx.1
  have HBB := Lib.hid hB
  subst hn
  obtain ⟨gv, ov, hav, hgv, hcv0⟩ := hx.2.1.2.2.2 Nat.zero_lt_one
  have HGV := Lib.hid hgv
  have HAV := Lib.hid hav
  clear hav
  have HCAP := Lib.hid (show 1 ≤ cap from hx.2.1.1)
  obtain ⟨k0, m0, s0, nm0, a0, n0, cap0, c0, hv0⟩ := vin_mk (hx.2.2 0 Nat.zero_lt_one)
  have hcell : (ch 0).cells = [.int .i64 k0, .int .i64 m0, .string s0, .slice nm0.a nm0.n nm0.cap, .slice a0 n0 cap0] := by rw [hv0, list5]
  have hcv : ∀ q u, (ch 0).cells[q]? = some u → w.cell? ⟨gv, ov + 0 * 5 + q, none⟩ = some u := hcv0 0 Nat.zero_lt_one
  rw [hcell] at hcv
  have HCV := Lib.hid (show ∀ q u, ([.int .i64 k0, .int .i64 m0, .string s0, .slice nm0.a nm0.n nm0.cap, .slice a0 n0 cap0] : List Value)[q]? = some u → w.cell? ⟨gv, ov + q, none⟩ = some u from fun q u hu => by have h := hcv q u hu; rwa [Nat.zero_mul, Nat.add_zero] at h)
  have HFULL := Lib.hid (show ∀ A C f, (ch 0).full d t (f 0) → (VT.mk k m s nm a 1 cap ch).full d i (.mk k m s noSL A 1 C f) from fun A C f h => ⟨noSL, A, 1, C, _, rfl, by
    rw [if_neg (by omega), if_pos hk]
    exact ⟨rfl, rfl, by rw [show ((d.f i).part ((d.f i).fnd s)).t.toNat = t by omega]; exact h⟩⟩)
  obtain ⟨FF, hFF⟩ : ∃ FF : VT → Prop, (ch 0).full d t = FF := ⟨_, rfl⟩
  rw [hFF] at HREC HFULL
  rw [hcell] at HREC
  have HTT := Lib.hid ht
  have HFD := Lib.hid hfd
  have HRD0 := Lib.hid (fun (W : World) (hW : Below w.heap.size w W) => ((hd.2 i hi).below (Below.refl _ _) hB).below hW (Nat.le_refl _))
  obtain ⟨fd, hfde⟩ : ∃ x, (d.f i).fnd s = x := ⟨_, rfl⟩
  rw [hfde] at HAPT HFY HTT HFD
  clear hFF hrec hv0 hcv0 hcv hgv hrow hfde ht hfd hcell hg
  generalize (VT.mk k m s nm a 1 cap ch).full d i = FU at *
  clear hx

  have HDI := Lib.hid ((hd.2 i hi).below (Below.refl w.heap.size w) hB)
  obtain ⟨gx, ox, hix, hgx, hrd⟩ := hd.1.read 22 46 Tryz.underlying22 (by kernel_rfl) Tryz.sizeOf46 hi
  obtain ⟨r, hr⟩ : ∃ r, d.f i = r := ⟨_, rfl⟩
  have HRE := Lib.hid hr
  have HO := Lib.hid (one_dcells15A r)
  have hb1 := ((Below.refl w.heap.size w).alloc (Nat.le_refl _) (.cells #[.int .i64 k, .int .i64 m, .string s, .slice nm.a nm.n nm.cap, .slice a 1 cap] 26)).alloc (by simp) (.cells #[.int .i64 0, .int .i64 0, .string ⟨#[]⟩, .slice none 0 0, .slice none 0 0] 26)
  have HX5 := Lib.hid ((Bx.new w #[.int .i64 k, .int .i64 m, .string s, .slice nm.a nm.n nm.cap, .slice a 1 cap] 26).alloc (.cells #[.int .i64 0, .int .i64 0, .string ⟨#[]⟩, .slice none 0 0, .slice none 0 0] 26))
  have HX6 := Lib.hid (show Bx ((w.alloc (.cells #[.int .i64 k, .int .i64 m, .string s, .slice nm.a nm.n nm.cap, .slice a 1 cap] 26)).alloc (.cells #[.int .i64 0, .int .i64 0, .string ⟨#[]⟩, .slice none 0 0, .slice none 0 0] 26)) (w.heap.size + 1) #[.int .i64 0, .int .i64 0, .string ⟨#[]⟩, .slice none 0 0, .slice none 0 0] 26 from by have h := Bx.new (w.alloc (.cells #[.int .i64 k, .int .i64 m, .string s, .slice nm.a nm.n nm.cap, .slice a 1 cap] 26)) #[.int .i64 0, .int .i64 0, .string ⟨#[]⟩, .slice none 0 0, .slice none 0 0] 26; rwa [World.size_alloc] at h)
  have HS1 := Lib.hid (show ((w.alloc (.cells #[.int .i64 k, .int .i64 m, .string s, .slice nm.a nm.n nm.cap, .slice a 1 cap] 26)).alloc (.cells #[.int .i64 0, .int .i64 0, .string ⟨#[]⟩, .slice none 0 0, .slice none 0 0] 26)).heap.size = w.heap.size + 1 + 1 from by simp only [World.size_alloc])
  have hra : ((w.alloc (.cells #[.int .i64 k, .int .i64 m, .string s, .slice nm.a nm.n nm.cap, .slice a 1 cap] 26)).alloc (.cells #[.int .i64 0, .int .i64 0, .string ⟨#[]⟩, .slice none 0 0, .slice none 0 0] 26)).rangeAt gx ox r.cells := fun j u hj => hrd _ (hb1.block gx (by omega)) j u (by rw [hr]; exact hj)
  have HRA := Lib.hid hra
  have HB1 := Lib.hid hb1
  clear hrd hgx hra hb1
  rw [list5]
  go_enter Tryz.func37, Tryz.ntmps37
  go_upto_region 1 with fail
  generalize (w.alloc (.cells #[.int .i64 k, .int .i64 m, .string s, .slice nm.a nm.n nm.cap, .slice a 1 cap] 26)).alloc (.cells #[.int .i64 0, .int .i64 0, .string ⟨#[]⟩, .slice none 0 0, .slice none 0 0] 26) = W1 at *
  obtain ⟨b, hb⟩ : ∃ b, w.heap.size = b := ⟨_, rfl⟩
  have HBE := Lib.hid hb
  rw [hb] at HX5 HX6 HS1 ⊢
  clear hb
  go_upto_region 2 with (first | (refine wpList_load_mid rfl 46 (.tmp 17) rfl gx ox rfl r.cells _ HRA.out Tryz.underlying46 rfl (by rw [info_D12A, HO.out.1]) ?_) | (refine wpList_store_new rfl 46 (.tmp 7) (.tmp 18) rfl 12 _ r.cells HO.out.1 (by rfl) info_D12A HO.out.2 rfl rfl ?_))
  (try dsimp only [Act.put])
  have HY7 := Lib.hid (show Bx (W1.alloc (.cells r.cells.toArray 46)) (b + 1 + 1) r.cells.toArray 46 from by have h := Bx.new W1 r.cells.toArray 46; rwa [HS1.out] at h)
  have HY5 := Lib.hid (HX5.out.alloc (.cells r.cells.toArray 46))
  have HY6 := Lib.hid (HX6.out.alloc (.cells r.cells.toArray 46))
  have HS2 := Lib.hid (show (W1.alloc (.cells r.cells.toArray 46)).heap.size = b + 1 + 1 + 1 from by rw [World.size_alloc, HS1.out])
  have HB2 := Lib.hid (HB1.out.alloc HB1.out.size (.cells r.cells.toArray 46))
  have hs1 := HS1.out
  rw [hs1]
  generalize W1.alloc (.cells r.cells.toArray 46) = W2 at *
  clear hs1 HX5 HX6 HS1 HB1 HRA
  have c0 := HY5.out.cell 0 (v := .int .i64 k) rfl
  have c1 := HY5.out.cell 1 (v := .int .i64 m) rfl
  have c2 := HY5.out.cell 2 (v := .string s) rfl
  go_upto_region 3 with (refine wpList_store_new rfl 26 (.tmp 8) (.tmp 25) rfl 5 _ [.int .i64 k, .int .i64 m, .string s, .slice none 0 0, .slice none 0 0] rfl (by rfl) info_V (by simp [Value.oneCell']) rfl rfl ?_)
  (try dsimp only [Act.put])
  have HZ8 := Lib.hid (show Bx (W2.alloc (.cells #[.int .i64 k, .int .i64 m, .string s, .slice none 0 0, .slice none 0 0] 26)) (b + 1 + 1 + 1) #[.int .i64 k, .int .i64 m, .string s, .slice none 0 0, .slice none 0 0] 26 from by have h := Bx.new W2 #[.int .i64 k, .int .i64 m, .string s, .slice none 0 0, .slice none 0 0] 26; rwa [HS2.out] at h)
  have HZ7 := Lib.hid (HY7.out.alloc (.cells #[.int .i64 k, .int .i64 m, .string s, .slice none 0 0, .slice none 0 0] 26))
  have HZ6 := Lib.hid (HY6.out.alloc (.cells #[.int .i64 k, .int .i64 m, .string s, .slice none 0 0, .slice none 0 0] 26))
  have HZ5 := Lib.hid (HY5.out.alloc (.cells #[.int .i64 k, .int .i64 m, .string s, .slice none 0 0, .slice none 0 0] 26))
  have HS3 := Lib.hid (show (W2.alloc (.cells #[.int .i64 k, .int .i64 m, .string s, .slice none 0 0, .slice none 0 0] 26)).heap.size = b + 4 from by rw [World.size_alloc, HS2.out])
  have HB3 := Lib.hid (HB2.out.alloc HB2.out.size (.cells #[.int .i64 k, .int .i64 m, .string s, .slice none 0 0, .slice none 0 0] 26))
  have hs2 := HS2.out
  rw [hs2]
  generalize W2.alloc (.cells #[.int .i64 k, .int .i64 m, .string s, .slice none 0 0, .slice none 0 0] 26) = W3 at *
  clear hs2 HY5 HY6 HY7 HS2 HB2 c0 c1 c2
  have e8 : (r.kind == 8) = false := beq_eq_false_iff_ne.2 (by rw [HRE.out.symm]; omega)
  have e9 : (r.kind == 9) = false := beq_eq_false_iff_ne.2 (by rw [HRE.out.symm]; omega)
  have e10 : (r.kind == 10) = true := beq_iff_eq.2 (by rw [HRE.out.symm]; exact hk)
  have c27 := HZ7.out.cell 0 (v := .int .i64 r.kind) rfl

  rw [hr] at HFW HAPT HFY HTT HFD HRD0
  have HRD := Lib.hid HRD0.out
  obtain rfl := HAV.out
  generalize r.kind = K at *
  clear hr hd hB hi hk HRD0

  have HFI := Lib.hid (Fields_ok w.heap.size W3 r (HRD.out W3 HB3.out) HB3.out.size (by have := HFW.out.1; omega) (by have := HFW.out.2; omega))
  have HRG := Lib.hid (show W3.rangeAt (b + 1 + 1) 0 r.cells from HZ7.out.range)
  go_upto_region 22 with fail
  go_wp2_with (refine wpList_load_mid rfl 46 (.tmp 7) rfl (b + 1 + 1) 0 rfl r.cells _ HRG.out Tryz.underlying46 rfl (by rw [info_D12A, HO.out.1]) ?_)
  refine HFI.out.mono ?_
  rintro e W4 ⟨av, rfl, ⟨aa, ca, rfl, hca, hrow⟩, h4⟩
  have HR4 := Lib.hid (show Below (b + 4) W3 W4 from by rw [HS3.out] at h4; exact h4)
  have HROW := Lib.hid hrow
  have HB4 := Lib.hid (show Below w.heap.size w W4 from HB3.out.trans (h4.mono HB3.out.size))
  obtain ⟨A, hA⟩ : ∃ x, W4.heap.size = x := ⟨_, rfl⟩
  have HAE := Lib.hid hA
  have HAB := Lib.hid (show b + 4 ≤ A from by have h1 := HS3.out; have h2 := h4.size; omega)
  obtain ⟨c, hc⟩ : ∃ x, b + 1 + 1 + 1 = x := ⟨_, rfl⟩
  have HCE := Lib.hid hc
  have HX5 := Lib.hid (HZ5.out.below h4 (by have := HS3.out; omega))
  have HX6 := Lib.hid (HZ6.out.below h4 (by have := HS3.out; omega))
  have HX8 := Lib.hid (HZ8.out.below h4 (by have := HS3.out; omega))
  rw [hc] at HX8 ⊢
  clear h4 hrow c27 hA hc
  obtain ⟨CN, hN⟩ : ∃ x, r.count = x := ⟨_, rfl⟩
  have HNE := Lib.hid hN
  rw [hN] at HROW ⊢
  clear hN
  go_wp2_with fail

  rw [HNE.out] at HFD HAPT
  go_loopw [14] (fun iv wr => RelA10 W4 c A k m s CN fd FF iv wr) (fun iv _ => CN - (Lib.intOf iv).toNat)
  case atStart => exact ⟨0, .slice none 0 0, 0, fun _ => .nil, Nat.zero_le _, rfl, rfl, HX8.out, CpS.nil _ _ _ _, fun i hi => absurd hi (Nat.not_lt_zero i), AtK.refl _ _⟩
  case round =>
    obtain ⟨j, lv, y, f, hj, rfl, hy, hbx, hcp, hff, hak⟩ := hrel
    have HYE := Lib.hid hy
    have HF := Lib.hid hff
    clear hy hff

    have HBX := Lib.hid hbx
    have HCP := Lib.hid hcp
    have HAK := Lib.hid hak
    clear hbx hcp hak
    have HS4 := Lib.hid (show A ≤ wr.heap.size from by have h1 := HAK.out.size; have h2 := HAE.out; omega)
    have HCA := Lib.hid (show c < A from by have h1 := HCE.out; have h2 := HAB.out; omega)
    have HBWR := Lib.hid (show Below w.heap.size w wr from HB4.out.trans (HAK.out.below (by have h1 := HCE.out; have h2 := HBE.out; omega) (by have h1 := HAE.out; have h2 := HAB.out; have h3 := HBE.out; omega)))

    by_cases hlt : j < CN
    · have q1 : decide ((j : Int) < (CN : Int)) = true := decide_eq_true (by omega)
      have q1n : decide (j < CN) = true := decide_eq_true hlt
      have q3 : IntKind.i64.wrap ((j : Int) + 1) = ((j + 1 : Nat) : Int) := wrap_succ hlt (by have h1 := HNE.out; have h2 := HFW.out; unfold DT.count at h1; omega)

      obtain ⟨gy, oy, hiy, hgb, hgy, hry⟩ := HROW.out j hlt
      have HCY := Lib.hid (show ∀ W, Below wr.heap.size wr W → ∀ q u, (r.part j).cells[q]? = some u → W.cell? ⟨gy, oy + q, none⟩ = some u from fun W hb q u hu => (World.cell?_of_block (w := W4) (a := ⟨gy, oy + q, none⟩) ((hb.block gy (by have h1 := HS4.out; have h2 := HAE.out; omega)).trans (HAK.out.block gy hgy (by have h1 := HCE.out; have h2 := HS3.out; omega)))).trans (hry q u hu))
      clear hgb hgy hry

      have f0 := HCY.out wr (Below.refl _ _) 0 (.string (r.part j).name) rfl
      rw [Nat.add_zero] at f0
      have e2 : wr.cell? ⟨b, 2, none⟩ = some (.string s) := (HX5.out.below (HAK.out.below (B := b + 1) (by have := HCE.out; omega) (by have h1 := HAE.out; have h2 := HAB.out; omega)) (by omega)).cell 2 rfl
      cases heb : sEq (r.part j).name s with
      | false =>
        have r1 : ((r.part j).name.toList == s.toList) = false := heb
        have HY2 := Lib.hid (show y = (if fd < j + 1 then 1 else 0) from by
          rw [HYE.out]
          have : fd ≠ j := fun e => by
            have h := HFY.out
            rw [e, heb] at h
            cases h
          by_cases h1 : fd < j
          · rw [if_pos h1, if_pos (by omega)]
          · rw [if_neg h1, if_neg (by omega)])
        generalize (r.part j).name = pn at *
        clear heb
        go_upto_region 26 with fail
        go_quiet (fail)
        go_wp2_with fail
        go_roundw
        case rel => exact ⟨j + 1, lv, y, f, hlt, rfl, HY2.out, HBX.out.below (drewN_below _ _) HBX.out.lt, HCP.out.below (drewN_below _ _), HF.out, HAK.out.then (drewN_below _ _)⟩
        case measure => simp only [Lib.intOf]; omega
      | true =>
        have r1 : ((r.part j).name.toList == s.toList) = true := heb
        have hfj : j = fd := HAPT.out j hlt heb
        have hy0 : y = 0 := by rw [HYE.out, if_neg (by omega)]
        have HTJ := Lib.hid (show (r.part j).t = (t : Int) from by rw [hfj]; exact HTT.out)
        have HFJ2 := Lib.hid hfj
        subst hy0
        generalize (r.part j).name = pn at *
        clear heb hfj
        go_upto_region 26 with fail
        go_quiet (fail)
        go_upto_region 27 with fail
        have HBQ := Lib.hid (drewN_below wr nq)
        generalize wr.drewN nq = wq at *
        clear f0 e2 r1
        have HBXQ := Lib.hid (HBX.out.below HBQ.out HBX.out.lt)
        have HCPQ := Lib.hid (HCP.out.below HBQ.out)
        have HAKQ := Lib.hid (HAK.out.then HBQ.out)
        have HS5 := Lib.hid (show A ≤ wq.heap.size from by have h1 := HAKQ.out.size; have h2 := HAE.out; omega)
        have HBWQ := Lib.hid (HBWR.out.trans (HBQ.out.mono HBWR.out.size))
        have HBZ := Lib.hid (show ∀ W, Below wq.heap.size wq W → Below w.heap.size w W from fun W hW => HBWQ.out.trans (hW.mono HBWQ.out.size))
        have HR := Lib.hid (fun (W : World) (hW : Below w.heap.size w W) => HREC.out W hW)
        have HFJ := Lib.hid (show ∀ y, FF y → FF y from fun y h => h)
        have HCL := Lib.hid (show ∀ W, Below wq.heap.size wq W → W.cell? ⟨c, 4, none⟩ = some lv from fun W hW => (HBXQ.out.below hW HBXQ.out.lt).cell 4 rfl)
        have HBX0 := Lib.hid (Below.drew (Below.refl wq.heap.size wq))
        have hbq0 : Below wr.heap.size wr wq.drew := HBQ.out.trans (HBX0.out.mono HBQ.out.size)
        have y1 : wq.drew.cell? ⟨gy, oy + 1, none⟩ = some (.int .i64 (t : Nat)) := by
          have h := HCY.out _ hbq0 1 (.int .i64 (r.part j).t) rfl
          rwa [HTJ.out] at h
        have y4 : wq.drew.cell? ⟨b, 4, none⟩ = some (.slice (some ⟨gv, ov, none⟩) 1 cap) := ((HX5.out.below (HAK.out.below (B := b + 1) (by have := HCE.out; omega) (by have h1 := HAE.out; have h2 := HAB.out; omega)) (by omega)).below hbq0 (by have h1 := HS4.out; have h2 := HAB.out; omega)).cell 4 rfl
        have hcx : ∀ q u, ([.int .i64 k0, .int .i64 m0, .string s0, .slice nm0.a nm0.n nm0.cap, .slice a0 n0 cap0] : List Value)[q]? = some u → wq.drew.cell? ⟨gv, ov + q, none⟩ = some u := fun q u hu => ((HBZ.out _ HBX0.out).cell (p := ⟨gv, ov + q, none⟩) (show gv < w.heap.size by have h1 := HGV.out; have h2 := HBB.out; omega)).trans (HCV.out q u hu)
        have x0 : wq.drew.cell? ⟨gv, ov, none⟩ = some (.int .i64 k0) := by have h := hcx 0 _ rfl; rwa [Nat.add_zero] at h
        have x1 := hcx 1 _ rfl
        have x2 := hcx 2 _ rfl
        have x3 := hcx 3 _ rfl
        have x4 := hcx 4 _ rfl
        have l0 := HCL.out _ HBX0.out
        have t9 : decide ((0 : Int) < (1 : Int)) = true := by decide
        clear hcx hbq0
        go_region_law (first
    | (go_simp; go_at_call 37; (refine (HR.out _ (HBZ.out _ HBX0.out)).mono ?_); rintro e w6 ⟨v1, rfl, hvi, hvb, hfu, h6⟩; obtain ⟨k1, m1, s1, nm1, a1, n1, cap1, ch1, rfl⟩ := vin_mk hvi; rw [list5]; have HBX2 := Lib.hid (HBX0.out.trans (h6.mono HBX0.out.size)); have HV1 := Lib.hid hvi; have HVB := Lib.hid hvb; have HFU := Lib.hid (HFJ.out _ hfu); clear h6 hvi hvb hfu; have l2 := HCL.out _ HBX2.out; have HBX3 := Lib.hid (HBX2.out.alloc HBX2.out.size (.cells #[.int .i64 k1, .int .i64 m1, .string s1, .slice nm1.a nm1.n nm1.cap, .slice a1 n1 cap1] 26)); have l3 := HCL.out _ HBX3.out)
    | (refine step_append_lies _ (by rfl) (.tmp 153) (.tmp 165) 24 (by rfl) A 26 i0 zeroV 5 80 Tryz.underlying24 hi0 hz0 hz1 hz2 rfl (by decide) lv 0 (flatV f 0) (by rfl) (HCPQ.out.below HBX3.out).got.1 ⟨w6.heap.size, 0, none⟩ 1 1 [.int .i64 k1, .int .i64 m1, .string s1, .slice nm1.a nm1.n nm1.cap, .slice a1 n1 cap1] (by rfl) (by rfl) (World.news_of_block (Bx.new w6 #[.int .i64 k1, .int .i64 m1, .string s1, .slice nm1.a nm1.n nm1.cap, .slice a1 n1 cap1] 26)) (by simp [Value.oneCell']) (by decide) (by unfold maxLen; omega) (by omega) (by have h := HBX3.out.size; have := HS5.out; omega) (w6.heap.size + 1) (World.size_alloc ..) ?_; intro gn capn w8 ho hg hat hlt8; have HST := Lib.hid (cp_val HAE.out HCA.out HBXQ.out HCPQ.out HAKQ.out HBX0.out.size HBX2.out HV1.out HVB.out ho hg hat); have o4 := HST.out.1.cell 4 (v := lv) rfl; have o5 := frozenM HST.out.1 4; clear ho hg hat hlt8))
        all_goals (
          have HY2 := Lib.hid (show 0 + 1 = (if fd < j + 1 then 1 else 0) from by rw [if_pos (by have := HFJ2.out; omega)])
          have HF2 := Lib.hid (show ∀ i, i < 0 + 1 → FF (if i < 0 then f i else .mk k1 m1 s1 nm1 a1 n1 cap1 ch1) from fun i hi => by
            rw [if_neg (by omega)]; exact HFU.out)
          clear o4 o5 y1 y4 l0 l2 l3 x0 x1 x2 x3 x4 t9
          go_wp2_with fail
          go_roundw
          case rel => exact ⟨j + 1, _, _, _, hlt, rfl, HY2.out, HST.out.2.1, HST.out.2.2.1, HF2.out, HST.out.2.2.2⟩
          case measure => simp only [Lib.intOf]; omega)
    · have q1 : decide ((j : Int) < (CN : Int)) = false := decide_eq_false (by omega)
      have q1n : decide (j < CN) = false := decide_eq_false hlt
      obtain rfl : j = CN := by omega
      have hy1 : y = 1 := by rw [HYE.out, if_pos HFD.out]
      subst hy1
      obtain ⟨av, capv, rfl, _, _, _⟩ := HCP.out.got.row (by omega)
      have HZR := Lib.hid (HX6.out.below (HAK.out.below (B := b + 1 + 1) (by have := HCE.out; omega) (by have h1 := HAE.out; have h2 := HAB.out; omega)) (by omega))
      go_wp2_with (first
        | (refine wpList_load_mid rfl 26 (.tmp 8) rfl c 0 rfl [.int .i64 k, .int .i64 m, .string s, .slice none 0 0, .slice av 1 capv] _ HBX.out.range Tryz.underlying26 rfl (by rw [info_V]; rfl) ?_)
        | (refine wpList_store_bx rfl 26 (.tmp 6) (.tmp 168) rfl 5 (b + 1) _ [.int .i64 k, .int .i64 m, .string s, .slice none 0 0, .slice av 1 capv] HZR.out (by rfl) (by rfl) info_V (by simp [Value.oneCell']) rfl rfl ?_; intro w10 hz10 hx10 hb10 ho10; have HX10 := Lib.hid hx10; have HB10 := Lib.hid (HBWR.out.trans (hb10.mono (by have := HBE.out; omega))); have HG10 := Lib.hid (HCP.out.got.keep (W' := w10) (fun q hq => ho10 q (by have := HAB.out; omega)) (by rw [hz10]; exact Nat.le_refl _)); clear hz10 hx10 hb10 ho10))

      obtain ⟨av2, capv2, e1, hrow, hrp, hvs⟩ := HG10.out.row (by omega)
      cases e1
      refine bodyPost_ret (v := .agg #[.int .i64 k, .int .i64 m, .string s, .slice none 0 0, .slice av 1 capv]) ?_ rfl ⟨.mk k m s noSL av 1 capv f, rfl, ⟨⟨HVX.out.1, HVX.out.2.1, HVX.out.2.2.1, noSL_in _ _⟩, hrow, fun i hi => (hvs i hi).1⟩, ⟨fun h => absurd h (Nat.lt_irrefl _), hrp.mono fun q hq => by show w.heap.size ≤ q; have h1 : A ≤ q := hq; have h2 := HAB.out; have h3 := HBE.out; omega, fun i hi => (hvs i hi).2.mono fun q hq => by show w.heap.size ≤ q; have h1 : A ≤ q := hq; have h2 := HAB.out; have h3 := HBE.out; omega⟩, HFULL.out _ _ _ (HF.out 0 (by omega)), HB10.out⟩
      exact results_cell_row (p := 6) rfl _ _ (b + 1) 26 _ (0, 0) _ rfl HX10.out Tryz.underlying26 rfl (by rw [info_V]; rfl)
end Go.Proofs.YtjhecpkdpomkmaaGreat
