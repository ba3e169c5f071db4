/-
  The document's answer for package strings: put.
-/
import Derived.Test.YtbbbgoigacledaaStRefP
namespace Go.Proofs.Ytbbbgoigacledaa
open Go.RowKit Go.Shelf
set_option linter.unusedVariables false
set_option linter.unusedSimpArgs false
set_option maxRecDepth 100000

/-- is no number wrong? -/
def posOk (z : List Int) : Bool := z.all fun x => decide (0 ≤ x)
theorem posOk_no {z : List Int} (i : Nat) (hi : i < z.length) (h : z.getD i 0 < 0) : posOk z = false := by
  cases hb : posOk z with
  | false => rfl
  | true =>
    unfold posOk at hb
    rw [List.all_eq_true] at hb
    have := hb z[i] (List.getElem_mem hi)
    rw [List.getD_eq_getElem?_getD, List.getElem?_eq_getElem hi] at h
    simp at this h
    omega
theorem posOk_all {z : List Int} (h : ∀ i, i < z.length → 0 ≤ z.getD i 0) : posOk z = true := by
  unfold posOk
  rw [List.all_eq_true]
  intro x hx
  obtain ⟨i, hi, rfl⟩ := List.getElem_of_mem hx
  have := h i hi
  rw [List.getD_eq_getElem?_getD, List.getElem?_eq_getElem hi] at this
  simpa using this
theorem ints_toNat {z : List Int} (h : posOk z = true) : ints (z.map Int.toNat) = z := by
  unfold ints
  rw [List.map_map]
  conv => rhs; rw [← List.map_id z]
  apply List.map_congr_left
  intro x hx
  have := (List.all_eq_true.1 h) x hx
  simp at this
  simp
  omega
set_option maxHeartbeats 4000000 in
/-- the numbers are looked through -/
theorem rput_gen (w : World) (B : List Bool) (al : Bool) (k : Nat) (tx : Bool) (v : Value) (z : List Int) (lo hi : Int) (hv : InAt w v z) (hk : k ≤ 8) (hz : ∀ x ∈ z, x < 256) (hn : z.length < 16384) (hB : B.length ≤ 500000)
    (b2 : -9223372036854775808 ≤ lo ∧ lo ≤ 9223372036854775807) (b3 : -9223372036854775808 ≤ hi ∧ hi ≤ 9223372036854775807) :
    Calls Try.prog 35 #[.string (bchars B), .bool al, .agg #[.int .i64 (k : Nat), .bool tx], v, .int .i64 lo, .int .i64 hi] w fun e w' =>
      e = .returned (.tuple #[.string (bchars (eB (posOk z) al tx k B lo hi (z.map Int.toNat))), .int .i64 (eE (posOk z) z.length lo hi)]) ∧ Below w.heap.size w w' := by
  obtain ⟨a, n, cap, rfl, hzn, hcap⟩ := hv.shape
  have hml : (z.map Int.toNat).length = n := by rw [List.length_map, hzn]
  have hb0 := (Below.refl w.heap.size w).alloc (Nat.le_refl _) (.cells #[.int .i64 (k : Nat), .bool tx] 70)
  have HB0 := Lib.hid hb0
  have HV := Lib.hid (hv.below hb0)
  have HZN := Lib.hid hzn
  by_cases hbad : lBad lo hi
  · rw [eB_bad (by rw [eE_bad hbad]; decide), eE_bad hbad]
    unfold lBad at hbad
    clear hv hb0
    by_cases h1 : lo < 0
    · have q1 : decide (lo < (0 : Int)) = true := decide_eq_true h1
      clear hbad h1
      go_enter Try.func35, Try.ntmps35
      go_wp2_with fail
      go_ret2
      exact ⟨rfl, HB0.out⟩
    · have q1 : decide (lo < (0 : Int)) = false := decide_eq_false (by omega)
      have q2 : decide ((0 : Int) ≤ hi) = true := decide_eq_true (by omega)
      have q3 : decide (hi < lo) = true := decide_eq_true (by omega)
      clear hbad h1
      go_enter Try.func35, Try.ntmps35
      go_wp2_with fail
      go_ret2
      exact ⟨rfl, HB0.out⟩
  have h0 : 0 ≤ lo := by unfold lBad at hbad; omega
  have q1 : decide (lo < (0 : Int)) = false := decide_eq_false (by omega)
  have hcase : decide ((0 : Int) ≤ hi) = false ∨ (decide ((0 : Int) ≤ hi) = true ∧ decide (hi < lo) = false) := by
    by_cases h : 0 ≤ hi
    · exact .inr ⟨decide_eq_true h, decide_eq_false (by unfold lBad at hbad; omega)⟩
    · exact .inl (decide_eq_false h)
  have hh0 : decide ((0 : Int) ≤ hi) = false → hi < 0 := fun h => by have := of_decide_eq_false h; omega
  have HK := Lib.hid (show ∀ (w' : World), Below (w.alloc (.cells #[.int .i64 (k : Nat), .bool tx] 70)).heap.size (w.alloc (.cells #[.int .i64 (k : Nat), .bool tx] 70)) w' → w'.cell? ⟨w.heap.size, 0, none⟩ = some (.int .i64 (k : Nat)) ∧ w'.cell? ⟨w.heap.size, 1, none⟩ = some (.bool tx) from fun w' h => by
    have e := h.block w.heap.size (by simp)
    refine ⟨(World.cell?_of_block (a := ⟨w.heap.size, 0, none⟩) e).trans (cell_of_row _ _ _ _ _ _ (heap_alloc_new _ _)), (World.cell?_of_block (a := ⟨w.heap.size, 1, none⟩) e).trans (cell_of_row _ _ _ _ _ _ (heap_alloc_new _ _))⟩)
  have HU8 := Lib.hid (show posOk z = true → ∀ i, (z.map Int.toNat).getD i 0 < 256 from fun hp => getD_lt fun y hy => by
    obtain ⟨x, hx, rfl⟩ := List.mem_map.1 hy
    have h1 := hz x hx
    have h2 := (List.all_eq_true.1 hp) x hx
    simp at h2
    omega)
  have hn' : n < 16384 := by omega
  have q5 : decide ((1048576 : Int) < (n : Int)) = false := decide_eq_false (by omega)
  rw [hzn]
  have HBAD := Lib.hid hbad
  have HH0 := Lib.hid hh0
  clear hv hb0 hz hn hbad hh0
  rcases hcase with q2 | ⟨q2, q3⟩
  all_goals
    go_enter Try.func35, Try.ntmps35
    go_wp2_with fail
    generalize w.alloc (.cells #[.int .i64 (k : Nat), .bool tx] 70) = W at *
    go_loopw [14] (fun i wr => wr = W ∧ ∃ j : Nat, j ≤ n ∧ i = .int .i64 j ∧ ∀ m, m < j → 0 ≤ z.getD m 0) (fun i _ => n - (intOf i).toNat)
    case atStart => exact ⟨rfl, 0, Nat.zero_le _, rfl, fun m h => by omega⟩
    case round =>
      obtain ⟨rfl, j, hj, rfl, hall⟩ := hrel
      have HA := Lib.hid hall
      clear hall
      by_cases hlt : j < n
      · have r1 : decide ((j : Int) < (n : Int)) = true := decide_eq_true (by omega)
        obtain ⟨g, o, rfl, hc⟩ := HV.out.ptr (by omega)
        obtain ⟨x, hx⟩ : ∃ x, z.getD j 0 = x := ⟨_, rfl⟩
        have c1 := hc j hlt
        rw [hx] at c1
        clear hc
        by_cases hx0 : x < 0
        · have r2 : decide (x < (0 : Int)) = true := decide_eq_true hx0
          have HP := Lib.hid (posOk_no j (by rw [HZN.out]; exact hlt) (by rw [hx]; exact hx0))
          clear hx hx0
          go_wp2_with fail
          go_ret2
          refine ⟨?_, HB0.out⟩
          rw [HP.out, eB_bad (by rw [hml, eE_no HBAD.out]; decide), eE_no HBAD.out]
          rfl
        · have r2 : decide (x < (0 : Int)) = false := decide_eq_false hx0
          have HX := Lib.hid hx
          clear hx
          go_wp2_with fail
          go_roundw
          case rel => exact ⟨(by first | rfl | trivial), j + 1, hlt, by go_num, fun m hm => by
            by_cases e : m = j
            · subst e; rw [HX.out]; omega
            · exact HA.out m (by omega)⟩
          case measure => simp [intOf]; omega
      · obtain rfl : j = n := by omega
        have r1 : decide ((j : Int) < (j : Int)) = false := decide_eq_false (by omega)
        have hp : posOk z = true := posOk_all (fun i hi => HA.out i (by rw [HZN.out] at hi; exact hi))
        have HP := Lib.hid hp
        have HI := Lib.hid (ints_toNat hp)
        clear hp HA
        by_cases hc1 : (j : Int) < lo
        · have r3 : decide ((j : Int) < lo) = true := decide_eq_true hc1
          have HE := Lib.hid (sE_con HBAD.out (.inl hc1))
          clear hc1
          go_wp2_with fail
          go_ret2
          refine ⟨?_, HB0.out⟩
          rw [HP.out, eB_bad (by rw [hml, eE_yes, HE.out]; decide), eE_yes, HE.out]
          rfl
        have r3 : decide ((j : Int) < lo) = false := decide_eq_false hc1
        by_cases hc2 : 0 ≤ hi ∧ hi < (j : Int)
        · have r4 : decide (hi < (j : Int)) = true := decide_eq_true hc2.2
          have HE := Lib.hid (sE_con HBAD.out (.inr hc2))
          first
          | (exfalso
             have := HH0.out q2
             omega)
          | (clear hc1 hc2
             go_wp2_with fail
             go_ret2
             refine ⟨?_, HB0.out⟩
             rw [HP.out, eB_bad (by rw [hml, eE_yes, HE.out]; decide), eE_yes, HE.out]
             rfl)
        have hs := sE_ok (n := j) HBAD.out (by omega) (by omega)
        have HS := Lib.hid hs
        have hle := sE_lErr hs
        have r4 : (decide ((0 : Int) ≤ hi) = true) → decide (hi < (j : Int)) = false := fun h => decide_eq_false (by have := of_decide_eq_true h; omega)
        have HF := Lib.hid (fun w => rFixed_ok lo hi w)
        have HEB := Lib.hid (show eB (posOk z) al tx k B lo hi (z.map Int.toNat) = stP al tx k B j lo hi ++ ubits k (z.map Int.toNat) by unfold eB; rw [hml, HP.out, eE_yes, hs, if_pos rfl])
        have HEE := Lib.hid (show eE (posOk z) j lo hi = 0 by rw [HP.out, eE_yes, hs])
        have r5 := r4
        try replace r5 := r5 q2
        clear hs r4 hc1 hc2
        have hst := stP_le al tx k B j lo hi (by omega) b2 b3
        by_cases hf : lo = hi ∧ hi ≤ 65535
        · obtain ⟨hz1, hz2, hz3⟩ := lErr_zero hle
          first
          | (exfalso
             have := HH0.out q2
             omega)
          | (have hhj : hi = (j : Int) := by omega
             rw [stP_fix hf] at HEB hst
             have e1 : algn al tx k j lo hi = (al && decide (16 < j * k)) := by unfold algn; rw [if_pos (fixd_yes hf)]
             rw [e1] at HEB hst
             obtain ⟨b16, hb16⟩ : ∃ b16, decide (16 < j * k) = b16 := ⟨_, rfl⟩
             have hm := mul_small (a := hi) (k := k) (by omega) (by omega) (by omega) (by omega)
             have r6 : decide ((16 : Int) < hi * (k : Int)) = b16 := by rw [← hb16, decide_eq_decide, hhj]; omega
             rw [hb16] at HEB hst
             rw [fixd_yes hf] at HF
             obtain ⟨d0, d1⟩ := HK.out wr (Below.refl _ _)
             have HKw := Lib.hid (fun w' h => (HK.out w' h))
             clear hf e1 hb16 hz1 hz2 hz3 hhj hle HK
             have hpl := padded_le B
             have HLy := Lib.hid (fun (w1 : World) (X : List Bool) (h : Below wr.heap.size wr w1) (hX : X.length ≤ 600000) => rlay_ok w1 X k tx (.slice a j cap) (z.map Int.toNat) (by rw [HI.out]; exact HV.out.below h) hk (HU8.out HP.out) (by rw [hml]; omega) (by omega))
             have hB6 : B.length ≤ 600000 ∧ (padded B).length ≤ 600000 := by omega
             cases al with
             | false =>
               rw [show (false && b16) = false from rfl, lead_false] at HEB
               go_wp2_with fail
               refine (HF.out wr).mono ?_
               rintro e w1 ⟨rfl, rfl⟩
               go_wp2_with fail
               refine (HLy.out wr B (Below.refl _ _) hB6.1).mono ?_
               rintro e w1 ⟨rfl, hb1⟩
               have H1 := Lib.hid (HB0.out.trans (hb1.mono HB0.out.size))
               clear hb1
               go_wp2_with fail
               go_ret2
               refine ⟨?_, H1.out⟩
               rw [HEB.out, HEE.out]
               rfl
             | true =>
               rw [show (true && b16) = b16 by cases b16 <;> rfl] at HEB
               cases b16 with
               | false =>
                 rw [lead_false] at HEB
                 go_wp2_with fail
                 refine (HF.out wr).mono ?_
                 rintro e w1 ⟨rfl, rfl⟩
                 go_wp2_with fail
                 refine (HLy.out wr B (Below.refl _ _) hB6.1).mono ?_
                 rintro e w1 ⟨rfl, hb1⟩
                 have H1 := Lib.hid (HB0.out.trans (hb1.mono HB0.out.size))
                 clear hb1
                 go_wp2_with fail
                 go_ret2
                 refine ⟨?_, H1.out⟩
                 rw [HEB.out, HEE.out]
                 rfl
               | true =>
                 rw [lead_true] at HEB
                 go_wp2_with fail
                 refine (HF.out wr).mono ?_
                 rintro e w1 ⟨rfl, rfl⟩
                 go_wp2_with fail
                 refine (ralignS_ok wr B (by omega)).mono ?_
                 rintro e w1 ⟨rfl, hb1⟩
                 have H1 := Lib.hid (HB0.out.trans (hb1.mono HB0.out.size))
                 have HL1 := Lib.hid (HLy.out w1 (padded B) hb1 hB6.2)
                 clear d0 d1
                 obtain ⟨d0, d1⟩ := HKw.out w1 hb1
                 clear hb1
                 go_wp2_with fail
                 refine HL1.out.mono ?_
                 rintro e w2 ⟨rfl, hb2⟩
                 have H2 := Lib.hid (H1.out.trans (hb2.mono H1.out.size))
                 clear hb2
                 go_wp2_with fail
                 go_ret2
                 refine ⟨?_, H2.out⟩
                 rw [HEB.out, HEE.out]
                 rfl)
        · rw [stP_var hf] at HEB hst
          have e1 : algn al tx k j lo hi = (al && decide (j ≠ 0) && !near tx k hi) := by unfold algn; rw [if_neg (by rw [fixd_no hf]; simp)]
          rw [e1] at HEB hst
          obtain ⟨p2, p3⟩ := one_len hle hn'
          have hll := lBits_le al B j lo hi (by omega) b2 b3
          have HLp := Lib.hid (fun (w1 : World) => rlput_any w1 B al j lo hi (by omega) (by omega) b2 b3)
          rw [p2, p3, hle] at HLp
          rw [fixd_no hf] at HF
          have HN := Lib.hid (fun w => rnear_ok k tx hi w hk)
          obtain ⟨d0, d1⟩ := HK.out wr (Below.refl _ _)
          generalize lBits al B j lo hi = B1 at *
          generalize near tx k hi = nr at *
          have hpl := padded_le B1
          have HLy := Lib.hid (fun (w1 : World) (X : List Bool) (h : Below wr.heap.size wr w1) (hX : X.length ≤ 600000) => rlay_ok w1 X k tx (.slice a j cap) (z.map Int.toNat) (by rw [HI.out]; exact HV.out.below h) hk (HU8.out HP.out) (by rw [hml]; omega) (by omega))
          have hB6 : B1.length ≤ 600000 ∧ (padded B1).length ≤ 600000 := by omega
          have r7 : (j : Int) ≤ (cap : Int) := by omega
          have r8 : (0 : Int) ≤ (j : Int) := by omega
          clear hf e1 p2 p3 hle
          cases al with
          | false =>
            rw [show (false && decide (j ≠ 0) && !nr) = false from rfl, lead_false] at HEB
            go_wp2_with fail
            refine (HF.out wr).mono ?_
            rintro e w1 ⟨rfl, rfl⟩
            go_wp2_with fail
            refine (HN.out wr).mono ?_
            rintro e w1 ⟨rfl, hb1⟩
            have H1 := Lib.hid hb1
            clear hb1 d0 d1
            go_wp2_with fail
            go_loopw [0, 3, 4, 5] (fun sv lv lov hiv wr2 => sv = .string (bchars B) ∧ lv = .slice a j cap ∧ lov = .int .i64 lo ∧ hiv = .int .i64 hi ∧ wr2 = w1) (fun _ _ _ _ _ => 0)
            case atStart => exact ⟨rfl, rfl, rfl, rfl, rfl⟩
            case round =>
              obtain ⟨rfl, rfl, rfl, rfl, rfl⟩ := hrel
              go_wp2_with fail
              refine (HLp.out _).mono ?_
              rintro e w2 ⟨rfl, hb2⟩
              have H2 := Lib.hid (H1.out.trans (hb2.mono H1.out.size))
              clear hb2
              have H3d := Lib.hid (H2.out.drew)
              obtain ⟨d0, d1⟩ := HK.out w2 H2.out
              go_wp2_with fail
              go_still_tail 5, (by kernel_rfl)
              change wpList _ _ _ _ _ (World.drew w2)
              go_wp2_with fail
              refine (HLy.out (World.drew w2) B1 H3d.out hB6.1).mono ?_
              rintro e w4 ⟨rfl, hb4⟩
              have H4 := Lib.hid (HB0.out.trans ((H3d.out.trans (hb4.mono H3d.out.size)).mono HB0.out.size))
              clear hb4
              go_wp2_with fail
              all_goals go_ret2
              all_goals refine ⟨?_, H4.out⟩
              all_goals rw [HEB.out, HEE.out]
              all_goals rfl
          | true =>
            by_cases hj0 : j = 0
            · have r9 : decide ((0 : Int) < (j : Int)) = false := decide_eq_false (by omega)
              have r9n : decide (0 < j) = false := decide_eq_false (by omega)
              rw [show (true && decide (j ≠ 0) && !nr) = false by rw [hj0]; rfl, lead_false] at HEB
              clear hj0
              go_wp2_with fail
              refine (HF.out wr).mono ?_
              rintro e w1 ⟨rfl, rfl⟩
              go_wp2_with fail
              refine (HN.out wr).mono ?_
              rintro e w1 ⟨rfl, hb1⟩
              have H1 := Lib.hid hb1
              clear hb1 d0 d1
              go_wp2_with fail
              go_loopw [0, 3, 4, 5] (fun sv lv lov hiv wr2 => sv = .string (bchars B) ∧ lv = .slice a j cap ∧ lov = .int .i64 lo ∧ hiv = .int .i64 hi ∧ wr2 = w1) (fun _ _ _ _ _ => 0)
              case atStart => exact ⟨rfl, rfl, rfl, rfl, rfl⟩
              case round =>
                obtain ⟨rfl, rfl, rfl, rfl, rfl⟩ := hrel
                go_wp2_with fail
                refine (HLp.out _).mono ?_
                rintro e w2 ⟨rfl, hb2⟩
                have H2 := Lib.hid (H1.out.trans (hb2.mono H1.out.size))
                clear hb2
                have H3d := Lib.hid (H2.out.drew)
                obtain ⟨d0, d1⟩ := HK.out w2 H2.out
                go_wp2_with fail
                go_still_tail 5, (by kernel_rfl)
                change wpList _ _ _ _ _ (World.drew w2)
                go_wp2_with fail
                refine (HLy.out (World.drew w2) B1 H3d.out hB6.1).mono ?_
                rintro e w4 ⟨rfl, hb4⟩
                have H4 := Lib.hid (HB0.out.trans ((H3d.out.trans (hb4.mono H3d.out.size)).mono HB0.out.size))
                clear hb4
                go_wp2_with fail
                all_goals go_ret2
                all_goals refine ⟨?_, H4.out⟩
                all_goals rw [HEB.out, HEE.out]
                all_goals rfl
            have r9 : decide ((0 : Int) < (j : Int)) = true := decide_eq_true (by omega)
            have r9n : decide (0 < j) = true := decide_eq_true (by omega)
            have r9p : 0 < j := by omega
            have r10 : decide (j ≠ 0) = true := decide_eq_true hj0
            rw [r10] at HEB
            clear hj0 r10
            cases nr with
            | true =>
              rw [show (true && true && !true) = false from rfl, lead_false] at HEB
              go_wp2_with fail
              refine (HF.out wr).mono ?_
              rintro e w1 ⟨rfl, rfl⟩
              go_wp2_with fail
              refine (HN.out wr).mono ?_
              rintro e w1 ⟨rfl, hb1⟩
              have H1 := Lib.hid hb1
              clear hb1 d0 d1
              go_wp2_with fail
              go_loopw [0, 3, 4, 5] (fun sv lv lov hiv wr2 => sv = .string (bchars B) ∧ lv = .slice a j cap ∧ lov = .int .i64 lo ∧ hiv = .int .i64 hi ∧ wr2 = w1) (fun _ _ _ _ _ => 0)
              case atStart => exact ⟨rfl, rfl, rfl, rfl, rfl⟩
              case round =>
                obtain ⟨rfl, rfl, rfl, rfl, rfl⟩ := hrel
                go_wp2_with fail
                refine (HLp.out _).mono ?_
                rintro e w2 ⟨rfl, hb2⟩
                have H2 := Lib.hid (H1.out.trans (hb2.mono H1.out.size))
                clear hb2
                have H3d := Lib.hid (H2.out.drew)
                obtain ⟨d0, d1⟩ := HK.out w2 H2.out
                go_wp2_with fail
                go_still_tail 5, (by kernel_rfl)
                change wpList _ _ _ _ _ (World.drew w2)
                go_wp2_with fail
                refine (HLy.out (World.drew w2) B1 H3d.out hB6.1).mono ?_
                rintro e w4 ⟨rfl, hb4⟩
                have H4 := Lib.hid (HB0.out.trans ((H3d.out.trans (hb4.mono H3d.out.size)).mono HB0.out.size))
                clear hb4
                go_wp2_with fail
                all_goals go_ret2
                all_goals refine ⟨?_, H4.out⟩
                all_goals rw [HEB.out, HEE.out]
                all_goals rfl
            | false =>
              rw [show (true && true && !false) = true from rfl, lead_true] at HEB
              go_wp2_with fail
              refine (HF.out wr).mono ?_
              rintro e w1 ⟨rfl, rfl⟩
              go_wp2_with fail
              refine (HN.out wr).mono ?_
              rintro e w1 ⟨rfl, hb1⟩
              have H1 := Lib.hid hb1
              clear hb1 d0 d1
              go_wp2_with fail
              go_loopw [0, 3, 4, 5] (fun sv lv lov hiv wr2 => sv = .string (bchars B) ∧ lv = .slice a j cap ∧ lov = .int .i64 lo ∧ hiv = .int .i64 hi ∧ wr2 = w1) (fun _ _ _ _ _ => 0)
              case atStart => exact ⟨rfl, rfl, rfl, rfl, rfl⟩
              case round =>
                obtain ⟨rfl, rfl, rfl, rfl, rfl⟩ := hrel
                go_wp2_with fail
                refine (HLp.out _).mono ?_
                rintro e w2 ⟨rfl, hb2⟩
                have H2 := Lib.hid (H1.out.trans (hb2.mono H1.out.size))
                clear hb2
                go_wp2_with fail
                refine (ralignS_ok w2 B1 (by omega)).mono ?_
                rintro e w3 ⟨rfl, hb3⟩
                have H3 := Lib.hid (H2.out.trans (hb3.mono H2.out.size))
                clear hb3
                have H3d := Lib.hid (H3.out.drew)
                obtain ⟨d0, d1⟩ := HK.out w3 H3.out
                go_wp2_with fail
                go_still_tail 5, (by kernel_rfl)
                change wpList _ _ _ _ _ (World.drew w3)
                go_wp2_with fail
                refine (HLy.out (World.drew w3) (padded B1) H3d.out hB6.2).mono ?_
                rintro e w4 ⟨rfl, hb4⟩
                have H4 := Lib.hid (HB0.out.trans ((H3d.out.trans (hb4.mono H3d.out.size)).mono HB0.out.size))
                clear hb4
                go_wp2_with fail
                all_goals go_ret2
                all_goals refine ⟨?_, H4.out⟩
                all_goals rw [HEB.out, HEE.out]
                all_goals rfl
end Go.Proofs.Ytbbbgoigacledaa
