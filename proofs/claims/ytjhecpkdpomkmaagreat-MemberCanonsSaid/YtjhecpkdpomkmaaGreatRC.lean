/-
  A bundle of texts, one behind the other: McV.
-/
import Derived.Test.YtjhecpkdpomkmaaGreatRA
namespace Go.Proofs.YtjhecpkdpomkmaaGreat
open Go.RowKit
set_option linter.unusedVariables false
set_option linter.unusedSimpArgs false
set_option maxRecDepth 100000

set_option maxHeartbeats 64000000 in
theorem rAt_9 (B : Nat) (w : World) (d : TB) (i : Nat) (k m : Int) (s : ByteArray) (nm : SL) (a : Option Addr) (n cap : Nat) (ch : Nat → VT) (hd : TBIn B w d) (hB : B ≤ w.heap.size) (hi : i < d.n) (hk : (d.f i).kind = 9) (hx : VIn B w (.mk k m s nm a n cap ch)) (hn : n ≤ 1048576) (t : Nat) (ht : (d.f i).elem = (t : Int))
    (hrec : ∀ j, j < n → ∀ W, Below w.heap.size w W → Calls Tryz.prog 37 #[.slice d.a d.n d.cap, .int .i64 (t : Nat), .agg (ch j).cells.toArray] W (CompOut W ((ch j).full d t))) :
    Calls Tryz.prog 37 #[.slice d.a d.n d.cap, .int .i64 (i : Nat), .agg (VT.mk k m s nm a n cap ch).cells.toArray] w (CompOut w ((VT.mk k m s nm a n cap ch).full d i)) := by
  obtain ⟨i0, hi0, hz0, hz1, hz2⟩ := info_Vz'
  have HREC := Lib.hid hrec
  have HVX := Lib.hid hx.1
  have HIX := Lib.hid (fun (j : Nat) (hj : j < n) => vRow_range hx.2.1 hj)
  have HBB := Lib.hid hB
  have HVI := Lib.hid (fun (j : Nat) (hj : j < n) => vin_mk (hx.2.2 j hj))
  have HFULL := Lib.hid (show ∀ A C f, (∀ j, j < n → (ch j).full d t (f j)) → (VT.mk k m s nm a n cap ch).full d i (.mk k m s noSL A n C f) from fun A C f h => ⟨noSL, A, n, C, _, rfl, by
    rw [if_pos hk]
    exact ⟨rfl, rfl, by rw [show (d.f i).elem.toNat = t by omega]; exact h⟩⟩)
  have HEL := Lib.hid ht
  obtain ⟨FF, hFF⟩ : ∃ FF : Nat → VT → Prop, (fun j => (ch j).full d t) = FF := ⟨_, rfl⟩
  have HFF := Lib.hid (show ∀ j y, (ch j).full d t y = FF j y from fun j y => by rw [← hFF])
  clear hFF hrec hx
  have HDI := Lib.hid ((hd.2 i hi).below (Below.refl w.heap.size w) hB)
  obtain ⟨gx, ox, hix, hgx, hrd⟩ := hd.1.read 22 46 Tryz.underlying22 (by kernel_rfl) Tryz.sizeOf46 hi
  obtain ⟨r, hr⟩ : ∃ r, d.f i = r := ⟨_, rfl⟩
  have HRE := Lib.hid hr
  have HO := Lib.hid (one_dcells15A r)
  have hb1 := ((Below.refl w.heap.size w).alloc (Nat.le_refl _) (.cells #[.int .i64 k, .int .i64 m, .string s, .slice nm.a nm.n nm.cap, .slice a n cap] 26)).alloc (by simp) (.cells #[.int .i64 0, .int .i64 0, .string ⟨#[]⟩, .slice none 0 0, .slice none 0 0] 26)
  have HX5 := Lib.hid ((Bx.new w #[.int .i64 k, .int .i64 m, .string s, .slice nm.a nm.n nm.cap, .slice a n cap] 26).alloc (.cells #[.int .i64 0, .int .i64 0, .string ⟨#[]⟩, .slice none 0 0, .slice none 0 0] 26))
  have HX6 := Lib.hid (show Bx ((w.alloc (.cells #[.int .i64 k, .int .i64 m, .string s, .slice nm.a nm.n nm.cap, .slice a n cap] 26)).alloc (.cells #[.int .i64 0, .int .i64 0, .string ⟨#[]⟩, .slice none 0 0, .slice none 0 0] 26)) (w.heap.size + 1) #[.int .i64 0, .int .i64 0, .string ⟨#[]⟩, .slice none 0 0, .slice none 0 0] 26 from by have h := Bx.new (w.alloc (.cells #[.int .i64 k, .int .i64 m, .string s, .slice nm.a nm.n nm.cap, .slice a n cap] 26)) #[.int .i64 0, .int .i64 0, .string ⟨#[]⟩, .slice none 0 0, .slice none 0 0] 26; rwa [World.size_alloc] at h)
  have HS1 := Lib.hid (show ((w.alloc (.cells #[.int .i64 k, .int .i64 m, .string s, .slice nm.a nm.n nm.cap, .slice a n cap] 26)).alloc (.cells #[.int .i64 0, .int .i64 0, .string ⟨#[]⟩, .slice none 0 0, .slice none 0 0] 26)).heap.size = w.heap.size + 1 + 1 from by simp only [World.size_alloc])
  have hra : ((w.alloc (.cells #[.int .i64 k, .int .i64 m, .string s, .slice nm.a nm.n nm.cap, .slice a n cap] 26)).alloc (.cells #[.int .i64 0, .int .i64 0, .string ⟨#[]⟩, .slice none 0 0, .slice none 0 0] 26)).rangeAt gx ox r.cells := fun j u hj => hrd _ (hb1.block gx (by omega)) j u (by rw [hr]; exact hj)
  have HRA := Lib.hid hra
  have HB1 := Lib.hid hb1
  clear hrd hgx hra hb1
  rw [list5]
  go_enter Tryz.func37, Tryz.ntmps37
  go_upto_region 1 with fail
  generalize (w.alloc (.cells #[.int .i64 k, .int .i64 m, .string s, .slice nm.a nm.n nm.cap, .slice a n cap] 26)).alloc (.cells #[.int .i64 0, .int .i64 0, .string ⟨#[]⟩, .slice none 0 0, .slice none 0 0] 26) = W1 at *
  obtain ⟨b, hb⟩ : ∃ b, w.heap.size = b := ⟨_, rfl⟩
  have HBE := Lib.hid hb
  rw [hb] at HX5 HX6 HS1 ⊢
  clear hb
  go_upto_region 2 with (first | (refine wpList_load_mid rfl 46 (.tmp 17) rfl gx ox rfl r.cells _ HRA.out Tryz.underlying46 rfl (by rw [info_D12A, HO.out.1]) ?_) | (refine wpList_store_new rfl 46 (.tmp 7) (.tmp 18) rfl 12 _ r.cells HO.out.1 (by rfl) info_D12A HO.out.2 rfl rfl ?_))
  (try dsimp only [Act.put])
  have HY7 := Lib.hid (show Bx (W1.alloc (.cells r.cells.toArray 46)) (b + 1 + 1) r.cells.toArray 46 from by have h := Bx.new W1 r.cells.toArray 46; rwa [HS1.out] at h)
  have HY5 := Lib.hid (HX5.out.alloc (.cells r.cells.toArray 46))
  have HY6 := Lib.hid (HX6.out.alloc (.cells r.cells.toArray 46))
  have HS2 := Lib.hid (show (W1.alloc (.cells r.cells.toArray 46)).heap.size = b + 1 + 1 + 1 from by rw [World.size_alloc, HS1.out])
  have HB2 := Lib.hid (HB1.out.alloc HB1.out.size (.cells r.cells.toArray 46))
  have hs1 := HS1.out
  rw [hs1]
  generalize W1.alloc (.cells r.cells.toArray 46) = W2 at *
  clear hs1 HX5 HX6 HS1 HB1 HRA
  have c0 := HY5.out.cell 0 (v := .int .i64 k) rfl
  have c1 := HY5.out.cell 1 (v := .int .i64 m) rfl
  have c2 := HY5.out.cell 2 (v := .string s) rfl
  go_upto_region 3 with (refine wpList_store_new rfl 26 (.tmp 8) (.tmp 25) rfl 5 _ [.int .i64 k, .int .i64 m, .string s, .slice none 0 0, .slice none 0 0] rfl (by rfl) info_V (by simp [Value.oneCell']) rfl rfl ?_)
  (try dsimp only [Act.put])
  have HZ8 := Lib.hid (show Bx (W2.alloc (.cells #[.int .i64 k, .int .i64 m, .string s, .slice none 0 0, .slice none 0 0] 26)) (b + 1 + 1 + 1) #[.int .i64 k, .int .i64 m, .string s, .slice none 0 0, .slice none 0 0] 26 from by have h := Bx.new W2 #[.int .i64 k, .int .i64 m, .string s, .slice none 0 0, .slice none 0 0] 26; rwa [HS2.out] at h)
  have HZ7 := Lib.hid (HY7.out.alloc (.cells #[.int .i64 k, .int .i64 m, .string s, .slice none 0 0, .slice none 0 0] 26))
  have HZ6 := Lib.hid (HY6.out.alloc (.cells #[.int .i64 k, .int .i64 m, .string s, .slice none 0 0, .slice none 0 0] 26))
  have HZ5 := Lib.hid (HY5.out.alloc (.cells #[.int .i64 k, .int .i64 m, .string s, .slice none 0 0, .slice none 0 0] 26))
  have HS3 := Lib.hid (show (W2.alloc (.cells #[.int .i64 k, .int .i64 m, .string s, .slice none 0 0, .slice none 0 0] 26)).heap.size = b + 4 from by rw [World.size_alloc, HS2.out])
  have HB3 := Lib.hid (HB2.out.alloc HB2.out.size (.cells #[.int .i64 k, .int .i64 m, .string s, .slice none 0 0, .slice none 0 0] 26))
  have hs2 := HS2.out
  rw [hs2]
  generalize W2.alloc (.cells #[.int .i64 k, .int .i64 m, .string s, .slice none 0 0, .slice none 0 0] 26) = W3 at *
  clear hs2 HY5 HY6 HY7 HS2 HB2 c0 c1 c2
  have e8 : (r.kind == 8) = false := beq_eq_false_iff_ne.2 (by rw [HRE.out.symm]; omega)
  have e9 : (r.kind == 9) = true := beq_iff_eq.2 (by rw [HRE.out.symm]; exact hk)
  have e10 : (r.kind == 10) = false := beq_eq_false_iff_ne.2 (by rw [HRE.out.symm]; omega)
  have c27 := HZ7.out.cell 0 (v := .int .i64 r.kind) rfl

  have HELR := Lib.hid (show r.elem = (t : Int) from by rw [← HRE.out]; exact HEL.out)
  generalize r.kind = K at *
  generalize (VT.mk k m s nm a n cap ch).full d i = FU at *
  clear hr hd hB hi hk ht
  have c4 := HZ5.out.cell 4 (v := .slice a n cap) rfl
  go_upto_region 17 with fail
  clear c27 c4
  go_wp2_with fail
  go_loopw [12] (fun iv wr => RelC9 W3 b k m s n FF iv wr) (fun iv _ => n - (Lib.intOf iv).toNat)
  case atStart => exact ⟨0, .slice none 0 0, fun _ => .nil, Nat.zero_le _, rfl, HZ8.out, GotV.nil _ _ _, fun i hi => absurd hi (Nat.not_lt_zero i), Below.refl _ _⟩
  case round =>
    obtain ⟨j, lv, f, hj, rfl, hbx, hgot, hff, hb3⟩ := hrel
    have HBX := Lib.hid hbx
    have HGOT := Lib.hid hgot
    have HF := Lib.hid hff
    have HBR := Lib.hid hb3
    clear hbx hgot hff hb3
    have HS4 := Lib.hid (show b + 4 ≤ wr.heap.size from by have := HBX.out.lt; omega)
    have HBWR := Lib.hid (show Below w.heap.size w wr from HB3.out.trans (HBR.out.mono (by have := HBE.out; omega)))
    have c4 := (HZ5.out.below HBR.out (by omega)).cell 4 (v := .slice a n cap) rfl
    by_cases hlt : j < n
    · have q1 : decide ((j : Int) < (n : Int)) = true := decide_eq_true (by omega)
      have q1n : decide (j < n) = true := decide_eq_true hlt
      have q3 : IntKind.i64.wrap ((j : Int) + 1) = ((j + 1 : Nat) : Int) := wrap_succ hlt (by omega)
      obtain ⟨gv, ov, hiv, hgv, hrv⟩ := HIX.out j hlt
      obtain ⟨k0, m0, s0, nm0, a0, n0, cap0, c0, hv0⟩ := HVI.out j hlt
      have HR := Lib.hid (fun (W : World) (hW : Below w.heap.size w W) => HREC.out j hlt W hW)
      have HFJ := Lib.hid (show ∀ y, (ch j).full d t y → FF j y from fun y h => by rw [← HFF.out]; exact h)
      rw [hv0] at hrv HR HFJ
      rw [list5] at hrv HR
      have HRX := Lib.hid (show ∀ W, Below wr.heap.size wr W → W.rangeAt gv ov [.int .i64 k0, .int .i64 m0, .string s0, .slice nm0.a nm0.n nm0.cap, .slice a0 n0 cap0] from fun W hW => hrv W ((HBWR.out.trans (hW.mono HBWR.out.size)).block gv (by have := HBB.out; omega)))
      clear hrv hgv hv0
      have HBZ := Lib.hid (show ∀ W, Below wr.heap.size wr W → Below w.heap.size w W from fun W hW => HBWR.out.trans (hW.mono HBWR.out.size))
      have HCL := Lib.hid (show ∀ W, Below wr.heap.size wr W → W.cell? ⟨b + 1 + 1 + 1, 4, none⟩ = some lv from fun W hW => (HBX.out.below hW (by have := HS4.out; omega)).cell 4 rfl)
      have HBX0 := Lib.hid (Below.drew (Below.refl wr.heap.size wr))
      have hx5 := HZ5.out.below HBR.out (by omega)
      have hx7 := HZ7.out.below HBR.out (by omega)
      have a11 : wr.drew.cell? ⟨b + 1 + 1, 11, none⟩ = some (.int .i64 (t : Nat)) := by
        have h := (hx7.below HBX0.out (by have := HS4.out; omega)).cell 11 (v := .int .i64 r.elem) rfl
        rwa [HELR.out] at h
      have a4 : wr.drew.cell? ⟨b, 4, none⟩ = some (.slice a n cap) := (hx5.below HBX0.out (by have := HS4.out; omega)).cell 4 rfl
      have l0 := HCL.out _ HBX0.out
      have x0 : wr.drew.cell? ⟨gv, ov, none⟩ = some (.int .i64 k0) := by have h := HRX.out _ HBX0.out 0 _ rfl; rwa [Nat.add_zero] at h
      have x1 : wr.drew.cell? ⟨gv, ov + 1, none⟩ = some (.int .i64 m0) := HRX.out _ HBX0.out 1 _ rfl
      have x2 : wr.drew.cell? ⟨gv, ov + 2, none⟩ = some (.string s0) := HRX.out _ HBX0.out 2 _ rfl
      have x3 : wr.drew.cell? ⟨gv, ov + 3, none⟩ = some (.slice nm0.a nm0.n nm0.cap) := HRX.out _ HBX0.out 3 _ rfl
      have x4 : wr.drew.cell? ⟨gv, ov + 4, none⟩ = some (.slice a0 n0 cap0) := HRX.out _ HBX0.out 4 _ rfl
      clear hx5 hx7
      go_upto_region 20 with fail
      clear c4
      go_region_law (first
    | (go_simp; go_at_call 37; (refine (HR.out _ (HBZ.out _ HBX0.out)).mono ?_); rintro e w6 ⟨v1, rfl, hvi, hvb, hfu, h6⟩; obtain ⟨k1, m1, s1, nm1, a1, n1, cap1, ch1, rfl⟩ := vin_mk hvi; rw [list5]; have HBX2 := Lib.hid (HBX0.out.trans (h6.mono HBX0.out.size)); have HV1 := Lib.hid hvi; have HVB := Lib.hid hvb; have HFU := Lib.hid (HFJ.out _ hfu); clear h6 hvi hvb hfu; have l2 := HCL.out _ HBX2.out; have HBX3 := Lib.hid (HBX2.out.alloc HBX2.out.size (.cells #[.int .i64 k1, .int .i64 m1, .string s1, .slice nm1.a nm1.n nm1.cap, .slice a1 n1 cap1] 26)); have l3 := HCL.out _ HBX3.out)
    | (refine step_append_lies _ (by rfl) (.tmp 121) (.tmp 131) 24 (by rfl) (b + 4) 26 i0 zeroV 5 80 Tryz.underlying24 hi0 hz0 hz1 hz2 rfl (by decide) lv j (flatV f j) (by rfl) (HGOT.out.below HBX3.out).1 ⟨w6.heap.size, 0, none⟩ 1 1 [.int .i64 k1, .int .i64 m1, .string s1, .slice nm1.a nm1.n nm1.cap, .slice a1 n1 cap1] (by rfl) (by rfl) (World.news_of_block (Bx.new w6 #[.int .i64 k1, .int .i64 m1, .string s1, .slice nm1.a nm1.n nm1.cap, .slice a1 n1 cap1] 26)) (by simp [Value.oneCell']) (by decide) (by unfold maxLen; omega) (by omega) (by have h := HBX3.out.size; have := HS4.out; omega) (w6.heap.size + 1) (World.size_alloc ..) ?_; intro gn capn w8 ho hg hat hlt8; have HST := Lib.hid (got_step HBX.out HGOT.out HBR.out HS4.out HBX0.out.size HBX2.out HV1.out HVB.out ho hg hat); have o4 := HST.out.1.cell 4 (v := lv) rfl; have o5 := frozenM HST.out.1 4; clear ho hg hat hlt8))
      all_goals (
        have HF2 := Lib.hid (show ∀ i, i < j + 1 → FF i (if i < j then f i else .mk k1 m1 s1 nm1 a1 n1 cap1 ch1) from fun i hi => by
          by_cases h1 : i < j
          · rw [if_pos h1]; exact HF.out i h1
          · rw [if_neg h1, show i = j by omega]; exact HFU.out)
        clear o4 o5 a11 a4 l0 l2 l3 x0 x1 x2 x3 x4
        go_wp2_with fail
        go_roundw
        case rel => exact ⟨j + 1, _, _, hlt, rfl, HST.out.2.1, HST.out.2.2.1, HF2.out, HST.out.2.2.2⟩
        case measure => simp only [Lib.intOf]; omega)
    · have q1 : decide ((j : Int) < (n : Int)) = false := decide_eq_false (by omega)
      have q1n : decide (j < n) = false := decide_eq_false hlt
      obtain rfl : j = n := by omega
      obtain ⟨av, capv, rfl, _, _, _⟩ := HGOT.out.row (by omega)
      have HZR := Lib.hid (HZ6.out.below HBR.out (by omega))
      go_wp2_with (first
        | (refine wpList_load_mid rfl 26 (.tmp 8) rfl (b + 1 + 1 + 1) 0 rfl [.int .i64 k, .int .i64 m, .string s, .slice none 0 0, .slice av j capv] _ HBX.out.range Tryz.underlying26 rfl (by rw [info_V]; rfl) ?_)
        | (refine wpList_store_bx rfl 26 (.tmp 6) (.tmp 168) rfl 5 (b + 1) _ [.int .i64 k, .int .i64 m, .string s, .slice none 0 0, .slice av j capv] HZR.out (by rfl) (by rfl) info_V (by simp [Value.oneCell']) rfl rfl ?_; intro w10 hz10 hx10 hb10 ho10; have HX10 := Lib.hid hx10; have HB10 := Lib.hid (HBWR.out.trans (hb10.mono (by have := HBE.out; omega))); have HG10 := Lib.hid (HGOT.out.keep (W' := w10) (fun q hq => ho10 q (by omega)) (by rw [hz10]; exact Nat.le_refl _)); clear hz10 hx10 hb10 ho10))

      obtain ⟨av2, capv2, e1, hrow, hrp, hvs⟩ := HG10.out.row (by omega)
      cases e1
      refine bodyPost_ret (v := .agg #[.int .i64 k, .int .i64 m, .string s, .slice none 0 0, .slice av j capv]) ?_ rfl ⟨.mk k m s noSL av j capv f, rfl, ⟨⟨HVX.out.1, HVX.out.2.1, HVX.out.2.2.1, noSL_in _ _⟩, hrow, fun i hi => (hvs i hi).1⟩, ⟨fun h => absurd h (Nat.lt_irrefl _), hrp.mono fun q hq => by show w.heap.size ≤ q; have : b + 4 ≤ q := hq; rw [HBE.out]; omega, fun i hi => (hvs i hi).2.mono fun q hq => by show w.heap.size ≤ q; have : b + 4 ≤ q := hq; rw [HBE.out]; omega⟩, HFULL.out _ _ _ (fun i hi => by rw [HFF.out]; exact HF.out i hi), HB10.out⟩
      exact results_cell_row (p := 6) rfl _ _ (b + 1) 26 _ (0, 0) _ rfl HX10.out Tryz.underlying26 rfl (by rw [info_V]; rfl)
end Go.Proofs.YtjhecpkdpomkmaaGreat
