/-
  The document's 'Set': parent is cut at all ends, and each piece asked; its 'Size'.
-/
import Derived.Test.YtfnpjdglfaaegaaBdP
namespace Go.Proofs.Ytfnpjdglfaaegaa
open Go.RowKit Go.Shelf
set_option linter.unusedVariables false
set_option linter.unusedSimpArgs false
set_option maxRecDepth 100000

theorem dup_get (C : List Int) (j : Nat) (hj : j < C.length) : (C.map dup)[j]! = (C[j]!, C[j]!) := by
  rw [getElem!_pos _ j (by simpa using hj), getElem!_pos C j hj, List.getElem_map]
  rfl
def RelKY (wr0 : World) (C : List Int) (x : Int) (hv kv : Value) (wx : World) : Prop :=
  ∃ (k : Nat) (h : Int), k ≤ C.length ∧ kv = .int .i64 (k : Nat) ∧ hv = .int .i64 h ∧ KInv C x k h ∧ Below wr0.heap.size wr0 wx
def RelP (w2 : World) (C : List Int) (p : Int → Bool) (ov iv : Value) (wr : World) : Prop :=
  ∃ (i : Nat) (acc : List Rg), i ≤ C.length ∧ iv = .int .i64 (i : Nat) ∧ OwnR w2.heap.size wr ov acc ∧ PInv C p i acc ∧ Below w2.heap.size w2 wr
set_option maxHeartbeats 16000000 in
theorem rSet_ok (c : CT) (B : Nat) (w : World) (vp : Value) (P : List Rg) (hc : CIn B w c) (hB : B ≤ w.heap.size) (hp : RSl w vp P) (hsz : 2 * c.sz ≤ 200) (hl : P.length ≤ 300) :
    Calls Try.prog 12 #[c.v, vp] w fun e w' => ∃ v r, e = .returned v ∧ Ans w' v (fun x => mem P x ∧ adm c 40 x = true) 10000 r ∧ Below w.heap.size w w' := by
  obtain ⟨i0, hi0', hz0, hz1, hz2⟩ := info_parts info_rg
  obtain ⟨C, hC⟩ : ∃ C, ((-9223372036854775808 : Int) :: cutsC c 40) = C := ⟨_, rfl⟩
  have HCC := Lib.hid hC
  have HCB := Lib.hid (show ∀ z ∈ C, I64 z from fun z hz => by
    rw [← hC] at hz
    rcases List.mem_cons.1 hz with rfl | hz
    · unfold I64; omega
    · exact cutsC_bd c 40 hc z hz)
  have HCN := Lib.hid (show ∀ x y, I64 x → I64 y → x ≤ y → (∀ k, k < C.length → ¬ (x < C[k]! ∧ C[k]! ≤ y)) → adm c 40 x = adm c 40 y from by rw [← hC]; exact cuts_const c hc)
  have HCL := Lib.hid (show C.length ≤ 250 from by rw [← hC]; have := cutsC_len c 40; simp; omega)
  have HLOW := Lib.hid (show (-9223372036854775808 : Int) ∈ C from by rw [← hC]; simp)
  have HCI := Lib.hid (show CIn w.heap.size w c from hc.below (Below.refl _ _) hB)
  obtain ⟨op, lo, hi, lw, hg, ca, cn, cc, cch, hop⟩ := hc.open
  have HOP := Lib.hid hop
  obtain ⟨sp, cp, rfl⟩ := hp.shape
  have hx := Bx.new w #[.int .i64 op, .int .i64 lo, .int .i64 hi, .bool lw, .bool hg, .slice ca cn cc] 24
  have hb0 : Below w.heap.size w (w.alloc (.cells #[.int .i64 op, .int .i64 lo, .int .i64 hi, .bool lw, .bool hg, .slice ca cn cc] 24)) := (Below.refl _ _).alloc (Nat.le_refl _) _
  have hs0 : (w.alloc (.cells #[.int .i64 op, .int .i64 lo, .int .i64 hi, .bool lw, .bool hg, .slice ca cn cc] 24)).heap.size = w.heap.size + 1 := by simp
  have hown := own_lit (w.alloc (.cells #[.int .i64 op, .int .i64 lo, .int .i64 hi, .bool lw, .bool hg, .slice ca cn cc] 24)) [(-9223372036854775808, -9223372036854775808)] (by simp) #[.int .i64 (-9223372036854775808), .int .i64 (-9223372036854775808)] rfl 1 rfl
  have hx1 := hx.alloc (.cells #[.int .i64 (-9223372036854775808), .int .i64 (-9223372036854775808)] 51)
  have hb1 := hb0.alloc (by rw [hs0]; omega) (.cells #[.int .i64 (-9223372036854775808), .int .i64 (-9223372036854775808)] 51)
  obtain ⟨W, hW⟩ : ∃ W, (w.alloc (.cells #[.int .i64 op, .int .i64 lo, .int .i64 hi, .bool lw, .bool hg, .slice ca cn cc] 24)).alloc (.cells #[.int .i64 (-9223372036854775808), .int .i64 (-9223372036854775808)] 51) = W := ⟨_, rfl⟩
  have HW := Lib.hid hW
  rw [hs0] at hown
  rw [hW] at hown hx1 hb1
  have hsW : W.heap.size = w.heap.size + 1 + 1 := by rw [← hW]; simp
  have HX := Lib.hid hx1
  have HB := Lib.hid hb1
  have HV := Lib.hid (hp.below hb1)
  have HENDS := Lib.hid (rends_ok w.heap.size (w.heap.size + 1) (by omega) c [(-9223372036854775808, -9223372036854775808)] W 1 _ (HCI.out.below hb1 (Nat.le_refl _)) (by omega) hown (by omega) (by omega) (by simp; omega))
  have HOWN := Lib.hid hown
  have HSW := Lib.hid hsW
  have HL := Lib.hid hl
  have HP := Lib.hid hp
  have HSZ := Lib.hid hsz
  have HMAP := Lib.hid (show [(-9223372036854775808, -9223372036854775808)] ++ (cutsC c (41 - 1)).map dup = C.map dup from by rw [← hC]; rfl)
  rw [HMAP.out, show ((1 : Nat) : Int) = 1 from rfl] at HENDS
  rw [hop] at HENDS ⊢
  simp only [CT.v, CT.cells] at HENDS ⊢
  rw [← hop]
  clear hc hB hp hsz hl hop hx hb0 hs0 hown hx1 hb1 hW hsW hC
  go_enter Try.func12, Try.ntmps12
  go_wp2_with fail
  rw [HW.out]
  refine HENDS.out.mono ?_
  rintro e w1 ⟨v1, rfl, h1, h2⟩
  have hb := h2.below HOWN.out (by have := HSW.out; omega)
  have HB1 := Lib.hid (HB.out.trans (hb.mono (Nat.le_succ _)))
  have HX1 := Lib.hid (HX.out.below hb (Nat.lt_succ_self _))
  have HP1 := Lib.hid (HP.out.below HB1.out)
  have hrs := h1.rsl (show Bd (C.map dup) from fun r hr => by
    obtain ⟨z, hz, rfl⟩ := List.mem_map.1 hr
    exact ⟨HCB.out z hz, HCB.out z hz⟩)
  have hpos : 0 < C.length := List.length_pos_of_mem HLOW.out
  obtain ⟨gc, oc, capc, rfl, hcap, hgc, hd⟩ := hrs.at (by simpa using hpos)
  rw [List.length_map] at hcap hd ⊢
  obtain ⟨n, hn⟩ : ∃ n, C.length = n := ⟨_, rfl⟩
  have HN := Lib.hid hn
  rw [hn] at hcap hpos hd ⊢
  have hn250 : n ≤ 250 := by have := HCL.out; omega
  have HD := Lib.hid (fun (j : Nat) (hj : j < n) (W' : World) (hW' : Below w1.heap.size w1 W') => (show W'.cell? ⟨gc, oc + j * 2, none⟩ = some (.int .i64 C[j]!) from by
    have h3 := (hd j hj).1
    rw [dup_get C j (by omega)] at h3
    exact (World.cell?_of_block (w := w1) (a := ⟨gc, oc + j * 2, none⟩) (hW'.block gc hgc)).trans h3))
  have HGC := Lib.hid hgc
  have H0 := Lib.hid (show RelP w1 C (adm c 40) (.slice none 0 0) (.int .i64 0) w1 from ⟨0, [], Nat.zero_le _, rfl, OwnR.nil _ _, PInv.start _ _, Below.refl _ _⟩)
  obtain ⟨pn, hpn⟩ : ∃ pn, P.length = pn := ⟨_, rfl⟩
  have HPN := Lib.hid hpn
  rw [hpn] at HP1 ⊢
  clear h1 h2 hb hrs hn hd hgc hpn HENDS HB HX HV HP HW HOWN HMAP hpos
  go_wp2_with fail
  go_loopw [6, 7] (fun ov iv wr => RelP w1 C (adm c 40) ov iv wr) (fun _ iv _ => n - (Lib.intOf iv).toNat)
  case atStart => exact H0.out
  case round =>
    clear H0
    rename World => wo
    obtain ⟨i, acc, hi1, rfl, hown, hinv, hbel⟩ := hrel
    have HO := Lib.hid hown
    have HI := Lib.hid hinv
    have HBW := Lib.hid hbel
    have hbw := hbel.size
    rw [HN.out] at hi1
    clear hown hinv hbel
    by_cases hlt : i < n
    · have q1 : decide ((i : Int) < (n : Int)) = true := decide_eq_true (by omega)
      have q1n : decide (i < n) = true := decide_eq_true hlt
      obtain ⟨x, hx⟩ : ∃ x, C[i]! = x := ⟨_, rfl⟩
      have HX9 := Lib.hid hx
      have HXI := Lib.hid (show I64 x from by
        rw [← hx, getElem!_pos C i (by have := HN.out; omega)]
        exact HCB.out _ (List.getElem_mem _))
      clear hx
      go_wp2_with fail
      go_loopw [8, 9] (fun hv kv wx => RelKY wo C x hv kv wx) (fun _ kv _ => n - (Lib.intOf kv).toNat)
      case atStart => exact ⟨0, _, Nat.zero_le _, rfl, rfl, KInv.start C HXI.out, Below.refl _ _⟩
      case round =>
        obtain ⟨k, h, hk, rfl, rfl, hki, hbk⟩ := hrel
        have HK := Lib.hid hki
        have HBK := Lib.hid hbk
        have HBX := Lib.hid (HBW.out.trans (hbk.mono hbw))
        rw [HN.out] at hk
        clear hki hbk
        have y1 : (i : Int) < (n : Int) := by omega
        have hgx : gc < wr.heap.size := Nat.lt_of_lt_of_le HGC.out HBX.out.size
        have d2 := HD.out i hlt wr HBX.out
        rw [HX9.out] at d2
        by_cases hkl : k < n
        · have q2 : decide ((k : Int) < (n : Int)) = true := decide_eq_true (by omega)
          have q2n : decide (k < n) = true := decide_eq_true hkl
          have q3 : IntKind.i64.wrap ((k : Int) + 1) = ((k + 1 : Nat) : Int) := wrap_succ hkl (by omega)
          have y2 : (k : Int) < (n : Int) := by omega
          have d1 := HD.out k hkl wr HBX.out
          obtain ⟨z, hz⟩ : ∃ z, C[k]! = z := ⟨_, rfl⟩
          rw [hz] at d1
          have HZ := Lib.hid hz
          have hzi : I64 z := by
            rw [← hz, getElem!_pos C k (by have := HN.out; omega)]
            exact HCB.out _ (List.getElem_mem _)
          have hxi := HXI.out
          clear hz
          by_cases h1 : x < z
          · have qa : decide (x < z) = true := decide_eq_true h1
            obtain ⟨z1, hz1⟩ : ∃ z1, z - 1 = z1 := ⟨_, rfl⟩
            have q4 : IntKind.i64.wrap (z - 1) = z1 := (wrap_ok (by unfold I64 at *; omega)).trans hz1
            have Q4 := Lib.hid q4
            clear q4
            by_cases h2 : z1 < h
            · have qb : decide (z1 < h) = true := decide_eq_true h2
              have HK2 := Lib.hid (show KInv C x (k + 1) z1 from by rw [← hz1]; exact HK.out.yes (by have := HN.out; omega) HZ.out h1 (by omega))
              have q4 := Q4.out
              clear h1 h2 hz1 hzi hxi
              go_wp2_with fail
              go_quiet (fail)
              clear d1 d2
              generalize hW1 : wr.drewN _ = W1
              have hbw1 : Below wr.heap.size wr W1 := by rw [← hW1]; exact ⟨rfl, rfl, rfl, Nat.le_refl _, fun _ _ => rfl⟩
              have HBK1 := Lib.hid (HBK.out.trans (hbw1.mono HBK.out.size))
              have d1 := HD.out k hkl W1 (HBX.out.trans (hbw1.mono HBX.out.size))
              rw [HZ.out] at d1
              have hgx1 : gc < W1.heap.size := Nat.lt_of_lt_of_le hgx hbw1.size
              clear hW1 hbw1
              go_wp2_with fail
              go_roundw
              case rel => exact ⟨k + 1, z1, by have := HN.out; omega, rfl, rfl, HK2.out, HBK1.out⟩
              case measure => simp only [Lib.intOf]; omega
            · have qb : decide (z1 < h) = false := decide_eq_false h2
              have HK2 := Lib.hid (show KInv C x (k + 1) h from HK.out.no HZ.out (fun _ => by omega))
              have q4 := Q4.out
              clear h1 h2 hz1 hzi hxi
              go_wp2_with fail
              go_quiet (fail)
              clear d1 d2
              generalize hW1 : wr.drewN _ = W1
              have hbw1 : Below wr.heap.size wr W1 := by rw [← hW1]; exact ⟨rfl, rfl, rfl, Nat.le_refl _, fun _ _ => rfl⟩
              have HBK1 := Lib.hid (HBK.out.trans (hbw1.mono HBK.out.size))
              clear hW1 hbw1
              go_wp2_with fail
              go_roundw
              case rel => exact ⟨k + 1, h, by have := HN.out; omega, rfl, rfl, HK2.out, HBK1.out⟩
              case measure => simp only [Lib.intOf]; omega
          · have qa : decide (x < z) = false := decide_eq_false h1
            have HK2 := Lib.hid (show KInv C x (k + 1) h from HK.out.no HZ.out (fun h9 => absurd h9 h1))
            clear h1 hzi hxi
            go_wp2_with fail
            go_quiet (fail)
            clear d1 d2
            generalize hW1 : wr.drewN _ = W1
            have hbw1 : Below wr.heap.size wr W1 := by rw [← hW1]; exact ⟨rfl, rfl, rfl, Nat.le_refl _, fun _ _ => rfl⟩
            have HBK1 := Lib.hid (HBK.out.trans (hbw1.mono HBK.out.size))
            clear hW1 hbw1
            go_wp2_with fail
            go_roundw
            case rel => exact ⟨k + 1, h, by have := HN.out; omega, rfl, rfl, HK2.out, HBK1.out⟩
            case measure => simp only [Lib.intOf]; omega
        · have q2 : decide ((k : Int) < (n : Int)) = false := decide_eq_false (by omega)
          have q2n : decide (k < n) = false := decide_eq_false hkl
          obtain rfl : k = n := by omega
          have HKF := Lib.hid (show KInv C x C.length h from by rw [HN.out]; exact HK.out)
          have HOX := Lib.hid (HO.out.below HBK.out)
          have hxx := HX1.out.below HBX.out HX1.out.lt
          have HBX0 := Lib.hid (Below.drew (Below.refl wr.heap.size wr))
          have HS := Lib.hid (show ∀ w', Below wr.heap.size wr w' → (w'.cell? ⟨w.heap.size, 0, none⟩ = some (.int .i64 op) ∧ w'.cell? ⟨w.heap.size, 1, none⟩ = some (.int .i64 lo) ∧ w'.cell? ⟨w.heap.size, 2, none⟩ = some (.int .i64 hi) ∧ w'.cell? ⟨w.heap.size, 3, none⟩ = some (.bool lw) ∧ w'.cell? ⟨w.heap.size, 4, none⟩ = some (.bool hg) ∧ w'.cell? ⟨w.heap.size, 5, none⟩ = some (.slice ca cn cc) ∧ w'.cell? ⟨gc, oc + i * 2, none⟩ = some (.int .i64 x)) from fun w' hb =>
            have h9 := hxx.below hb hxx.lt
            ⟨h9.cell 0 rfl, h9.cell 1 rfl, h9.cell 2 rfl, h9.cell 3 rfl, h9.cell 4 rfl, h9.cell 5 rfl, (hb.cell (p := ⟨gc, oc + i * 2, none⟩) hgx).trans d2⟩)
          have HS0 := Lib.hid (HS.out _ HBX0.out)
          have HBT := Lib.hid (HB1.out.trans (HBX.out.mono HB1.out.size))
          have hcx := fun (w' : World) (hb : Below wr.heap.size wr w') => rIn_ok c w.heap.size x w' (HCI.out.below (HBT.out.trans (hb.mono HBT.out.size)) (Nat.le_refl _)) (HBT.out.trans (hb.mono HBT.out.size)).size
          obtain ⟨pb, hpb⟩ : ∃ pb, adm c 40 x = pb := ⟨_, rfl⟩
          have HPB := Lib.hid hpb
          rw [hpb, HOP.out] at hcx
          simp only [CT.v, CT.cells] at hcx
          have HIN := Lib.hid hcx
          have q9 : IntKind.i64.wrap ((i : Int) + 1) = ((i + 1 : Nat) : Int) := wrap_succ hlt (by omega)
          clear hcx hpb hxx d2
          go_wp2_with fail
          go_region_held3 (fun w' => w'.cell? ⟨w.heap.size, 0, none⟩ = some (.int .i64 op) ∧ w'.cell? ⟨w.heap.size, 1, none⟩ = some (.int .i64 lo) ∧ w'.cell? ⟨w.heap.size, 2, none⟩ = some (.int .i64 hi) ∧ w'.cell? ⟨w.heap.size, 3, none⟩ = some (.bool lw) ∧ w'.cell? ⟨w.heap.size, 4, none⟩ = some (.bool hg) ∧ w'.cell? ⟨w.heap.size, 5, none⟩ = some (.slice ca cn cc) ∧ w'.cell? ⟨gc, oc + i * 2, none⟩ = some (.int .i64 x)) (first | with_reducible exact HS1.out | with_reducible exact HS0.out) (first
            | (go_at_call 24; (with_reducible refine (HIN.out _ HBX0.out).mono ?_); rintro e w2 ⟨rfl, h2⟩; have HBX1 := Lib.hid (HBX0.out.trans (h2.mono HBX0.out.size)); have HS1 := Lib.hid (HS.out _ HBX1.out); clear h2))
          have HO2 := Lib.hid (HOX.out.below HBX1.out)
          have HBW2 := Lib.hid (HBX.out.trans (HBX1.out.mono HBX.out.size))
          cases pb with
          | false =>
            have HI2 := Lib.hid (HI.out.no HX9.out HPB.out)
            clear HS HS0 HS1 HIN
            go_wp2_with fail
            go_roundw
            case rel => exact ⟨i + 1, acc, by have := HN.out; omega, rfl, HO2.out, HI2.out, HBW2.out⟩
            case measure => simp only [Lib.intOf]; omega
          | true =>
            have HI2 := Lib.hid (HI.out.yes HX9.out HXI.out HPB.out HKF.out HCN.out)
            have d2 := HS1.out.2.2.2.2.2.2
            have hgx2 : gc < w2.heap.size := Nat.lt_of_lt_of_le hgx HBX1.out.size
            have hal : acc.length ≤ 1000 := by have := HI.out.2.1; omega
            have HAP := Lib.hid (show acc.length + 1 ≤ maxLen ∧ (acc.length + 1) * 16 ≤ 140737488355328 ∧ w1.heap.size ≤ (w2.alloc (.cells #[.int .i64 x, .int .i64 h] 51)).heap.size from ⟨by unfold maxLen; omega, by omega, by have := HBW2.out.size; simp; omega⟩)
            clear HS HS0 HS1 HIN hal
            go_wp2_with (at_builtin; refine wpList_append_own _ rfl (.tmp 60) (.tmp 68) 25 rfl w1.heap.size 51 i0 rgZero 2 16 Try.underlying25 hi0' hz0 hz1 hz2 rfl (by decide) _ acc.length (rcells acc) rfl (World.ownsRow.alloc HO2.out _) ⟨_, 0, none⟩ 1 1 [.int .i64 x, .int .i64 h] rfl rfl (new_rg _ _ _) (one_rg _ _) HAP.out.1 HAP.out.2.1 HAP.out.2.2 ?_; intro v9 w9 hown9 hgr9 _; have HO3 := Lib.hid (own_snoc hown9); have HBW3 := Lib.hid (own_grown HBW2.out HO2.out (Nat.le_refl _) HBW2.out.size _ hgr9); clear hown9 hgr9)
            go_roundw
            case rel => exact ⟨i + 1, _, by have := HN.out; omega, rfl, HO3.out, HI2.out, HBW3.out⟩
            case measure => simp only [Lib.intOf]; omega
    · have q1 : decide ((i : Int) < (n : Int)) = false := decide_eq_false (by omega)
      have q1n : decide (i < n) = false := decide_eq_false hlt
      obtain rfl : i = n := by omega
      have hfin := PInv.done (C := C) (p := adm c 40) (acc := acc) (by rw [HN.out]; exact HI.out) HLOW.out HCB.out HCN.out
      have HFIN := Lib.hid hfin
      have HBT := Lib.hid (HB1.out.trans (HBW.out.mono HB1.out.size))
      have HM := Lib.hid (rMeet_ok wo _ _ acc P (HO.out.rsl HI.out.1) (HP1.out.below HBW.out) (by have := HI.out.2.1; omega) HL.out)
      clear hfin
      go_wp2_with fail
      refine HM.out.mono ?_
      rintro e w2 ⟨v, r, rfl, h1, h2⟩
      have HF := Lib.hid (show Ans w2 v (fun x => mem P x ∧ adm c 40 x = true) 10000 r from ⟨h1.1, ⟨h1.2.1.1, h1.2.1.2.1, fun y hy => (h1.2.1.2.2 y hy).trans ((and_congr (HFIN.out y hy) Iff.rfl).trans and_comm)⟩, h1.2.2⟩)
      have HB2 := Lib.hid (HBT.out.trans (h2.mono HBT.out.size))
      clear h1 h2
      go_wp2_with fail
      go_ret
      exact ⟨_, r, rfl, HF.out, HB2.out⟩
end Go.Proofs.Ytfnpjdglfaaegaa
