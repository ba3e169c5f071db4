/-
  The document's answer for package strings: get, where a length is read and units behind it, aligned.
-/
import Derived.Test.YtbpfggkpfaobhaaGreatStRefG4
namespace Go.Proofs.YtbpfggkpfaobhaaGreat
open Go.RowKit Go.Shelf
set_option linter.unusedVariables false
set_option linter.unusedSimpArgs false
set_option maxRecDepth 100000

set_option maxHeartbeats 8000000 in
theorem rget_vb (w : World) (b : Nat) (L : List Nat) (p : Nat) (al : Bool) (k : Nat) (tx : Bool) (lo hi : Int) (hq : QAt w b (bitsOf L) p) (hk : k ≤ 8) (hL : L.length ≤ 1000000) (hv : ¬ lBad lo hi) (hf : ¬ (lo = hi ∧ hi ≤ 65535)) (b2 : -9223372036854775808 ≤ lo ∧ lo ≤ 9223372036854775807) (b3 : -9223372036854775808 ≤ hi ∧ hi ≤ 9223372036854775807) (he : (gl al L p lo hi).e = 0) (hm : Last al tx k (fun n p => uGo L k n p []) L p lo hi) (hal0 : al = true) (hcv : (gl al L p lo hi).v = 0) :
    Calls Tryz.prog 32 #[.pointer (some ⟨b, 0, none⟩), .bool al, .agg #[.int .i64 (k : Nat), .bool tx], .int .i64 lo, .int .i64 hi] w fun e w2 => ∃ v, e = .returned (.tuple #[v, .int .i64 (rdFin lo hi (gU al tx k (fun n p => uGo L k n p []) L p lo hi)).e]) ∧ InAt w2 v (ints (rdFin lo hi (gU al tx k (fun n p => uGo L k n p []) L p lo hi)).l) ∧ QAt w2 b (bitsOf L) (rdFin lo hi (gU al tx k (fun n p => uGo L k n p []) L p lo hi)).p ∧ Only b w w2 := by
  have hb0 := (Below.refl w.heap.size w).alloc (Nat.le_refl _) (.cells #[.int .i64 (k : Nat), .bool tx] 71)
  have hne : w.heap.size ≠ b := by have := hq.lt; omega
  have HK := Lib.hid (show ∀ (w' : World), Only b (w.alloc (.cells #[.int .i64 (k : Nat), .bool tx] 71)) w' → w'.cell? ⟨w.heap.size, 0, none⟩ = some (.int .i64 (k : Nat)) ∧ w'.cell? ⟨w.heap.size, 1, none⟩ = some (.bool tx) from fun w' h => by
    have e := h.block w.heap.size (by simp) hne
    refine ⟨(World.cell?_of_block (a := ⟨w.heap.size, 0, none⟩) e).trans (cell_of_row _ _ _ _ _ _ (heap_alloc_new _ _)), (World.cell?_of_block (a := ⟨w.heap.size, 1, none⟩) e).trans (cell_of_row _ _ _ _ _ _ (heap_alloc_new _ _))⟩)
  have HQ0 := Lib.hid (hq.below hb0)
  have HO0 := Lib.hid (Only.of_below (b := b) hb0)
  have h0 : 0 ≤ lo := by unfold lBad at hv; omega
  have q1 : decide (lo < (0 : Int)) = false := decide_eq_false (by omega)
  have HF := Lib.hid (fun w => rFixed_ok lo hi w)
  rw [fixd_no hf] at HF
  have HC := Lib.hid (fun (w1 : World) (f t : Int) (h : QAt w1 b (bitsOf L) p) (hft : (0 ≤ hi ∧ hi ≤ 65535 ∧ f = lo ∧ t = hi) ∨ (¬ (0 ≤ hi ∧ hi ≤ 65535) ∧ f = 0 ∧ -9223372036854775808 ≤ t ∧ t < 0)) => rcnt6_ok w1 b L p al lo hi f t h hv hL b2 b3 hft)
  have hv6 := gl_v al L p lo hi h0
  have hm2 := fun h => hm h he
  clear hm
  have hm := hm2
  clear hm2
  have hal : algn al tx k (gl al L p lo hi).v lo hi = (al && decide ((gl al L p lo hi).v ≠ 0) && !near tx k hi) := by unfold algn; rw [if_neg (by rw [fixd_no hf]; simp)]
  rw [he] at HC
  unfold gU at hm ⊢
  rw [hal] at hm ⊢
  obtain ⟨i0, hi0, hz0, hz1, hz2⟩ := info_parts info_i64
  have HN := Lib.hid (fun w => rnear_ok k tx hi w hk)
  have HAl := Lib.hid (fun (w1 : World) (h : QAt w1 b (bitsOf L) (gl al L p lo hi).p) => rralign_all w1 b L _ h (by omega))
  subst hal0
  rw [show (true && decide ((gl true L p lo hi).v ≠ 0) && !near tx k hi) = false by rw [hcv]; rfl] at hm ⊢
  rw [rdPart_no] at hm ⊢
  have HU := Lib.hid (fun (w1 : World) (h : QAt w1 b (bitsOf L) (gl true L p lo hi).p) => runits_ok w1 b L k tx _ (gl true L p lo hi).v h hk hL (by omega))
  have hle : (uGo L k (gl true L p lo hi).v (gl true L p lo hi).p []).l.length ≤ 65536 := Nat.le_trans (uGo_len L k _ _ []) (by simpa using hv6)
  generalize uGo L k (gl true L p lo hi).v (gl true L p lo hi).p [] = o at *
  generalize (gl true L p lo hi).v = cv at *
  generalize (gl true L p lo hi).p = cp at *
  obtain ⟨cm, hcm⟩ : ∃ cm, (gl true L p lo hi).m = cm := ⟨_, rfl⟩
  rw [hcm] at hm HC
  have HHM := Lib.hid hm
  subst hcv
  clear hcm hf hm he hal
  by_cases hA : 65535 < hi
  · have c1 : decide ((65535 : Int) < hi) = true := decide_eq_true hA
    have c2 : decide (hi < (0 : Int)) = false := decide_eq_false (by omega)
    have c3 : decide ((0 : Int) ≤ hi) = true := decide_eq_true (by omega)
    have c4 : decide (hi < lo) = false := decide_eq_false (by unfold lBad at hv; omega)
    have HCC := Lib.hid (fun (w1 : World) (h : QAt w1 b (bitsOf L) p) => HC.out w1 0 (-1) h (.inr ⟨by omega, rfl, by omega, by omega⟩))
    clear HC hv hA hq hb0 b2 b3
    go_enter Tryz.func32, Tryz.ntmps32
    go_wp2_with fail
    generalize w.alloc (.cells #[.int .i64 (k : Nat), .bool tx] 71) = W at *
    refine (HF.out _).mono ?_
    rintro e w1 ⟨rfl, rfl⟩
    go_wp2_with fail
    go_loopw [13, 14, 15, 16, 17] (fun av lv fv tv mv wr => RelDG W b w.heap.size L p o 0 (-1) av lv fv tv mv wr) (fun _ _ _ _ mv _ => boolM mv)
    case atStart => exact ⟨Only.refl _ _, .inl ⟨rfl, rfl, rfl, rfl, rfl, rfl⟩⟩
    case round =>
      obtain ⟨hon, ⟨rfl, rfl, rfl, rfl, rfl, rfl⟩ | ⟨rfl, hown, hqq, hoe⟩⟩ := hrel
      · by_cases hoe : o.e = 0
        · obtain rfl : cm = false := by
            cases cm with
            | false => rfl
            | true => exact absurd hoe (HHM.out rfl)
          have HUU := HU.out
          rw [hoe] at HUU
          have HUV := Lib.hid HUU
          clear HUU
          go_wp2_with fail
          refine (HCC.out _ HQ0.out).mono ?_
          rintro e w2 ⟨n, m, rfl, hnm, h1, h2⟩
          obtain ⟨rfl, rfl⟩ := hnm trivial
          have HQ2 := Lib.hid h1
          have HO2 := Lib.hid h2
          obtain ⟨d0, d1⟩ := HK.out w2 h2
          clear h1 h2 hnm HCC HU
          go_wp2_with fail
          refine (HUV.out w2 HQ2.out).mono ?_
          rintro e w4 ⟨v, rfl, h1, h2, h3⟩
          have HI4 := Lib.hid h1
          have HQ4 := Lib.hid h2
          have HO4 := Lib.hid (HO2.out.trans h3)
          have hsz : w.heap.size ≤ w4.heap.size := Nat.le_trans HO0.out.size HO4.out.size
          clear h1 h2 h3 d0 d1 HUV
          rcases HI4.out with ⟨rfl, hnil⟩ | ⟨g, oo, cap, rfl, hcap, hz⟩
          · go_wp2_with fail
            go_roundw
            case rel => exact ⟨HO4.out, .inr ⟨rfl, by rw [hnil]; exact OwnI.nil _ _, HQ4.out, hoe⟩⟩
            case measure => simp [boolM]
          · rw [ints_length] at hcap
            have HZ := Lib.hid (in_cells hz)
            have HL := Lib.hid (ints_length o.l)
            clear hz
            rw [ints_length]
            go_wp2_with (at_builtin; refine wpList_append_own _ rfl (.tmp 112) (.tmp 113) 67 rfl w.heap.size 3 i0 (.int .i64 0) 1 8 Tryz.underlying67 hi0 hz0 hz1 hz2 rfl (by decide) _ 0 [] rfl (World.ownsRow_nil _ _ _ _) ⟨g, oo, none⟩ o.l.length cap (i64s (ints o.l)) rfl (by simp [i64s, ints]) HZ.out (i64s_one _) (by unfold maxLen; omega) (by omega) hsz ?_; intro v' w5 hown4 hgr4 _; have hbl4 := (Below.refl w4.heap.size w4).grown hgr4 (Nat.le_refl _) (fun k hk => by cases hk); have HOW := Lib.hid hown4; have HBL := Lib.hid hbl4; clear hown4 hgr4 hbl4)
            go_roundw
            case rel => exact ⟨HO4.out.trans (Only.of_below HBL.out), .inr ⟨rfl, ownI_app HOW.out, HQ4.out.below HBL.out, hoe⟩⟩
            case measure => simp [boolM]
        · obtain ⟨n1, n2⟩ := ne_facts hoe
          have HRF := Lib.hid (show rdFin lo hi o = ⟨o.e, [], o.p⟩ from if_neg hoe)
          have HUV := Lib.hid HU.out
          generalize hoe2 : o.e = oe at *
          clear hoe hoe2 HU
          cases cm
          all_goals
            go_wp2_with fail
            refine (HCC.out _ HQ0.out).mono ?_
            rintro e w2 ⟨n, m, rfl, hnm, h1, h2⟩
            obtain ⟨rfl, rfl⟩ := hnm trivial
            have HQ2 := Lib.hid h1
            have HO2 := Lib.hid h2
            obtain ⟨d0, d1⟩ := HK.out w2 h2
            clear h1 h2 hnm HCC
            go_wp2_with fail
            refine (HUV.out w2 HQ2.out).mono ?_
            rintro e w4 ⟨v, rfl, h1, h2, h3⟩
            have HQ4 := Lib.hid h2
            have HO4 := Lib.hid (HO0.out.trans (HO2.out.trans h3))
            clear h1 h2 h3 d0 d1 HUV
            go_wp2_with fail
            go_ret2
            rw [HRF.out]
            exact ⟨_, rfl, .inl ⟨rfl, rfl⟩, HQ4.out, HO4.out⟩
      · have HO := Lib.hid hown
        have HQ := Lib.hid hqq
        have HW := Lib.hid (HO0.out.trans hon)
        obtain ⟨a, n, cap, rfl, hzn, hcap⟩ := hown.inat.shape
        rw [ints_length] at hzn
        have HI := Lib.hid hown.inat
        clear hown hqq hon HCC HU HN HAl HK HQ0
        by_cases hc : (n : Int) < lo ∨ (0 ≤ hi ∧ hi < (n : Int))
        · have HRF := Lib.hid (show rdFin lo hi o = ⟨4, [], o.p⟩ by unfold rdFin; rw [if_pos hoe, hzn, if_pos hc])
          by_cases hx : (n : Int) < lo
          · have s1 : decide ((n : Int) < lo) = true := decide_eq_true hx
            clear hc hoe hx
            go_wp2_with fail
            go_ret2
            rw [HRF.out]
            exact ⟨_, rfl, .inl ⟨rfl, rfl⟩, HQ.out, HW.out⟩
          · first
            | (exfalso; omega)
            | (have s1 : decide ((n : Int) < lo) = false := decide_eq_false hx
               have s2 : decide ((0 : Int) ≤ hi) = true := decide_eq_true (by omega)
               have s3 : decide (hi < (n : Int)) = true := decide_eq_true (by omega)
               clear hc hoe hx
               go_wp2_with fail
               go_ret2
               rw [HRF.out]
               exact ⟨_, rfl, .inl ⟨rfl, rfl⟩, HQ.out, HW.out⟩)
        · have HRF := Lib.hid (show rdFin lo hi o = ⟨0, o.l, o.p⟩ by unfold rdFin; rw [if_pos hoe, hzn, if_neg hc])
          have s1 : decide ((n : Int) < lo) = false := decide_eq_false (by omega)
          have s3 : decide ((0 : Int) ≤ hi) = true → decide (hi < (n : Int)) = false := fun h => decide_eq_false (by have := of_decide_eq_true h; omega)
          have s4 := s3
          try replace s4 := s4 c3
          clear hc hoe s3
          go_wp2_with fail
          go_ret2
          rw [HRF.out]
          exact ⟨_, rfl, HI.out, HQ.out, HW.out⟩
  by_cases hB : hi < 0
  · have c1 : decide ((65535 : Int) < hi) = false := decide_eq_false (by omega)
    have c2 : decide (hi < (0 : Int)) = true := decide_eq_true hB
    have c3 : decide ((0 : Int) ≤ hi) = false := decide_eq_false (by omega)
    have HCC := Lib.hid (fun (w1 : World) (h : QAt w1 b (bitsOf L) p) => HC.out w1 0 hi h (.inr ⟨by omega, rfl, by omega, by omega⟩))
    clear HC hv hA hq hb0 b2 b3
    go_enter Tryz.func32, Tryz.ntmps32
    go_wp2_with fail
    generalize w.alloc (.cells #[.int .i64 (k : Nat), .bool tx] 71) = W at *
    refine (HF.out _).mono ?_
    rintro e w1 ⟨rfl, rfl⟩
    go_wp2_with fail
    go_loopw [13, 14, 15, 16, 17] (fun av lv fv tv mv wr => RelDG W b w.heap.size L p o 0 hi av lv fv tv mv wr) (fun _ _ _ _ mv _ => boolM mv)
    case atStart => exact ⟨Only.refl _ _, .inl ⟨rfl, rfl, rfl, rfl, rfl, rfl⟩⟩
    case round =>
      obtain ⟨hon, ⟨rfl, rfl, rfl, rfl, rfl, rfl⟩ | ⟨rfl, hown, hqq, hoe⟩⟩ := hrel
      · by_cases hoe : o.e = 0
        · obtain rfl : cm = false := by
            cases cm with
            | false => rfl
            | true => exact absurd hoe (HHM.out rfl)
          have HUU := HU.out
          rw [hoe] at HUU
          have HUV := Lib.hid HUU
          clear HUU
          go_wp2_with fail
          refine (HCC.out _ HQ0.out).mono ?_
          rintro e w2 ⟨n, m, rfl, hnm, h1, h2⟩
          obtain ⟨rfl, rfl⟩ := hnm trivial
          have HQ2 := Lib.hid h1
          have HO2 := Lib.hid h2
          obtain ⟨d0, d1⟩ := HK.out w2 h2
          clear h1 h2 hnm HCC HU
          go_wp2_with fail
          refine (HUV.out w2 HQ2.out).mono ?_
          rintro e w4 ⟨v, rfl, h1, h2, h3⟩
          have HI4 := Lib.hid h1
          have HQ4 := Lib.hid h2
          have HO4 := Lib.hid (HO2.out.trans h3)
          have hsz : w.heap.size ≤ w4.heap.size := Nat.le_trans HO0.out.size HO4.out.size
          clear h1 h2 h3 d0 d1 HUV
          rcases HI4.out with ⟨rfl, hnil⟩ | ⟨g, oo, cap, rfl, hcap, hz⟩
          · go_wp2_with fail
            go_roundw
            case rel => exact ⟨HO4.out, .inr ⟨rfl, by rw [hnil]; exact OwnI.nil _ _, HQ4.out, hoe⟩⟩
            case measure => simp [boolM]
          · rw [ints_length] at hcap
            have HZ := Lib.hid (in_cells hz)
            have HL := Lib.hid (ints_length o.l)
            clear hz
            rw [ints_length]
            go_wp2_with (at_builtin; refine wpList_append_own _ rfl (.tmp 112) (.tmp 113) 67 rfl w.heap.size 3 i0 (.int .i64 0) 1 8 Tryz.underlying67 hi0 hz0 hz1 hz2 rfl (by decide) _ 0 [] rfl (World.ownsRow_nil _ _ _ _) ⟨g, oo, none⟩ o.l.length cap (i64s (ints o.l)) rfl (by simp [i64s, ints]) HZ.out (i64s_one _) (by unfold maxLen; omega) (by omega) hsz ?_; intro v' w5 hown4 hgr4 _; have hbl4 := (Below.refl w4.heap.size w4).grown hgr4 (Nat.le_refl _) (fun k hk => by cases hk); have HOW := Lib.hid hown4; have HBL := Lib.hid hbl4; clear hown4 hgr4 hbl4)
            go_roundw
            case rel => exact ⟨HO4.out.trans (Only.of_below HBL.out), .inr ⟨rfl, ownI_app HOW.out, HQ4.out.below HBL.out, hoe⟩⟩
            case measure => simp [boolM]
        · obtain ⟨n1, n2⟩ := ne_facts hoe
          have HRF := Lib.hid (show rdFin lo hi o = ⟨o.e, [], o.p⟩ from if_neg hoe)
          have HUV := Lib.hid HU.out
          generalize hoe2 : o.e = oe at *
          clear hoe hoe2 HU
          cases cm
          all_goals
            go_wp2_with fail
            refine (HCC.out _ HQ0.out).mono ?_
            rintro e w2 ⟨n, m, rfl, hnm, h1, h2⟩
            obtain ⟨rfl, rfl⟩ := hnm trivial
            have HQ2 := Lib.hid h1
            have HO2 := Lib.hid h2
            obtain ⟨d0, d1⟩ := HK.out w2 h2
            clear h1 h2 hnm HCC
            go_wp2_with fail
            refine (HUV.out w2 HQ2.out).mono ?_
            rintro e w4 ⟨v, rfl, h1, h2, h3⟩
            have HQ4 := Lib.hid h2
            have HO4 := Lib.hid (HO0.out.trans (HO2.out.trans h3))
            clear h1 h2 h3 d0 d1 HUV
            go_wp2_with fail
            go_ret2
            rw [HRF.out]
            exact ⟨_, rfl, .inl ⟨rfl, rfl⟩, HQ4.out, HO4.out⟩
      · have HO := Lib.hid hown
        have HQ := Lib.hid hqq
        have HW := Lib.hid (HO0.out.trans hon)
        obtain ⟨a, n, cap, rfl, hzn, hcap⟩ := hown.inat.shape
        rw [ints_length] at hzn
        have HI := Lib.hid hown.inat
        clear hown hqq hon HCC HU HN HAl HK HQ0
        by_cases hc : (n : Int) < lo ∨ (0 ≤ hi ∧ hi < (n : Int))
        · have HRF := Lib.hid (show rdFin lo hi o = ⟨4, [], o.p⟩ by unfold rdFin; rw [if_pos hoe, hzn, if_pos hc])
          by_cases hx : (n : Int) < lo
          · have s1 : decide ((n : Int) < lo) = true := decide_eq_true hx
            clear hc hoe hx
            go_wp2_with fail
            go_ret2
            rw [HRF.out]
            exact ⟨_, rfl, .inl ⟨rfl, rfl⟩, HQ.out, HW.out⟩
          · first
            | (exfalso; omega)
            | (have s1 : decide ((n : Int) < lo) = false := decide_eq_false hx
               have s2 : decide ((0 : Int) ≤ hi) = true := decide_eq_true (by omega)
               have s3 : decide (hi < (n : Int)) = true := decide_eq_true (by omega)
               clear hc hoe hx
               go_wp2_with fail
               go_ret2
               rw [HRF.out]
               exact ⟨_, rfl, .inl ⟨rfl, rfl⟩, HQ.out, HW.out⟩)
        · have HRF := Lib.hid (show rdFin lo hi o = ⟨0, o.l, o.p⟩ by unfold rdFin; rw [if_pos hoe, hzn, if_neg hc])
          have s1 : decide ((n : Int) < lo) = false := decide_eq_false (by omega)
          have s3 : decide ((0 : Int) ≤ hi) = true → decide (hi < (n : Int)) = false := fun h => decide_eq_false (by have := of_decide_eq_true h; omega)
          have s4 := s3
          try replace s4 := s4 c3
          clear hc hoe s3
          go_wp2_with fail
          go_ret2
          rw [HRF.out]
          exact ⟨_, rfl, HI.out, HQ.out, HW.out⟩
  · have c1 : decide ((65535 : Int) < hi) = false := decide_eq_false hA
    have c2 : decide (hi < (0 : Int)) = false := decide_eq_false hB
    have c3 : decide ((0 : Int) ≤ hi) = true := decide_eq_true (by omega)
    have c4 : decide (hi < lo) = false := decide_eq_false (by unfold lBad at hv; omega)
    have HCC := Lib.hid (fun (w1 : World) (h : QAt w1 b (bitsOf L) p) => HC.out w1 lo hi h (.inl ⟨by omega, by omega, rfl, rfl⟩))
    clear HC hv hA hq hb0 b2 b3
    go_enter Tryz.func32, Tryz.ntmps32
    go_wp2_with fail
    generalize w.alloc (.cells #[.int .i64 (k : Nat), .bool tx] 71) = W at *
    refine (HF.out _).mono ?_
    rintro e w1 ⟨rfl, rfl⟩
    go_wp2_with fail
    go_loopw [13, 14, 15, 16, 17] (fun av lv fv tv mv wr => RelDG W b w.heap.size L p o lo hi av lv fv tv mv wr) (fun _ _ _ _ mv _ => boolM mv)
    case atStart => exact ⟨Only.refl _ _, .inl ⟨rfl, rfl, rfl, rfl, rfl, rfl⟩⟩
    case round =>
      obtain ⟨hon, ⟨rfl, rfl, rfl, rfl, rfl, rfl⟩ | ⟨rfl, hown, hqq, hoe⟩⟩ := hrel
      · by_cases hoe : o.e = 0
        · obtain rfl : cm = false := by
            cases cm with
            | false => rfl
            | true => exact absurd hoe (HHM.out rfl)
          have HUU := HU.out
          rw [hoe] at HUU
          have HUV := Lib.hid HUU
          clear HUU
          go_wp2_with fail
          refine (HCC.out _ HQ0.out).mono ?_
          rintro e w2 ⟨n, m, rfl, hnm, h1, h2⟩
          obtain ⟨rfl, rfl⟩ := hnm trivial
          have HQ2 := Lib.hid h1
          have HO2 := Lib.hid h2
          obtain ⟨d0, d1⟩ := HK.out w2 h2
          clear h1 h2 hnm HCC HU
          go_wp2_with fail
          refine (HUV.out w2 HQ2.out).mono ?_
          rintro e w4 ⟨v, rfl, h1, h2, h3⟩
          have HI4 := Lib.hid h1
          have HQ4 := Lib.hid h2
          have HO4 := Lib.hid (HO2.out.trans h3)
          have hsz : w.heap.size ≤ w4.heap.size := Nat.le_trans HO0.out.size HO4.out.size
          clear h1 h2 h3 d0 d1 HUV
          rcases HI4.out with ⟨rfl, hnil⟩ | ⟨g, oo, cap, rfl, hcap, hz⟩
          · go_wp2_with fail
            go_roundw
            case rel => exact ⟨HO4.out, .inr ⟨rfl, by rw [hnil]; exact OwnI.nil _ _, HQ4.out, hoe⟩⟩
            case measure => simp [boolM]
          · rw [ints_length] at hcap
            have HZ := Lib.hid (in_cells hz)
            have HL := Lib.hid (ints_length o.l)
            clear hz
            rw [ints_length]
            go_wp2_with (at_builtin; refine wpList_append_own _ rfl (.tmp 112) (.tmp 113) 67 rfl w.heap.size 3 i0 (.int .i64 0) 1 8 Tryz.underlying67 hi0 hz0 hz1 hz2 rfl (by decide) _ 0 [] rfl (World.ownsRow_nil _ _ _ _) ⟨g, oo, none⟩ o.l.length cap (i64s (ints o.l)) rfl (by simp [i64s, ints]) HZ.out (i64s_one _) (by unfold maxLen; omega) (by omega) hsz ?_; intro v' w5 hown4 hgr4 _; have hbl4 := (Below.refl w4.heap.size w4).grown hgr4 (Nat.le_refl _) (fun k hk => by cases hk); have HOW := Lib.hid hown4; have HBL := Lib.hid hbl4; clear hown4 hgr4 hbl4)
            go_roundw
            case rel => exact ⟨HO4.out.trans (Only.of_below HBL.out), .inr ⟨rfl, ownI_app HOW.out, HQ4.out.below HBL.out, hoe⟩⟩
            case measure => simp [boolM]
        · obtain ⟨n1, n2⟩ := ne_facts hoe
          have HRF := Lib.hid (show rdFin lo hi o = ⟨o.e, [], o.p⟩ from if_neg hoe)
          have HUV := Lib.hid HU.out
          generalize hoe2 : o.e = oe at *
          clear hoe hoe2 HU
          cases cm
          all_goals
            go_wp2_with fail
            refine (HCC.out _ HQ0.out).mono ?_
            rintro e w2 ⟨n, m, rfl, hnm, h1, h2⟩
            obtain ⟨rfl, rfl⟩ := hnm trivial
            have HQ2 := Lib.hid h1
            have HO2 := Lib.hid h2
            obtain ⟨d0, d1⟩ := HK.out w2 h2
            clear h1 h2 hnm HCC
            go_wp2_with fail
            refine (HUV.out w2 HQ2.out).mono ?_
            rintro e w4 ⟨v, rfl, h1, h2, h3⟩
            have HQ4 := Lib.hid h2
            have HO4 := Lib.hid (HO0.out.trans (HO2.out.trans h3))
            clear h1 h2 h3 d0 d1 HUV
            go_wp2_with fail
            go_ret2
            rw [HRF.out]
            exact ⟨_, rfl, .inl ⟨rfl, rfl⟩, HQ4.out, HO4.out⟩
      · have HO := Lib.hid hown
        have HQ := Lib.hid hqq
        have HW := Lib.hid (HO0.out.trans hon)
        obtain ⟨a, n, cap, rfl, hzn, hcap⟩ := hown.inat.shape
        rw [ints_length] at hzn
        have HI := Lib.hid hown.inat
        clear hown hqq hon HCC HU HN HAl HK HQ0
        by_cases hc : (n : Int) < lo ∨ (0 ≤ hi ∧ hi < (n : Int))
        · have HRF := Lib.hid (show rdFin lo hi o = ⟨4, [], o.p⟩ by unfold rdFin; rw [if_pos hoe, hzn, if_pos hc])
          by_cases hx : (n : Int) < lo
          · have s1 : decide ((n : Int) < lo) = true := decide_eq_true hx
            clear hc hoe hx
            go_wp2_with fail
            go_ret2
            rw [HRF.out]
            exact ⟨_, rfl, .inl ⟨rfl, rfl⟩, HQ.out, HW.out⟩
          · first
            | (exfalso; omega)
            | (have s1 : decide ((n : Int) < lo) = false := decide_eq_false hx
               have s2 : decide ((0 : Int) ≤ hi) = true := decide_eq_true (by omega)
               have s3 : decide (hi < (n : Int)) = true := decide_eq_true (by omega)
               clear hc hoe hx
               go_wp2_with fail
               go_ret2
               rw [HRF.out]
               exact ⟨_, rfl, .inl ⟨rfl, rfl⟩, HQ.out, HW.out⟩)
        · have HRF := Lib.hid (show rdFin lo hi o = ⟨0, o.l, o.p⟩ by unfold rdFin; rw [if_pos hoe, hzn, if_neg hc])
          have s1 : decide ((n : Int) < lo) = false := decide_eq_false (by omega)
          have s3 : decide ((0 : Int) ≤ hi) = true → decide (hi < (n : Int)) = false := fun h => decide_eq_false (by have := of_decide_eq_true h; omega)
          have s4 := s3
          try replace s4 := s4 c3
          clear hc hoe s3
          go_wp2_with fail
          go_ret2
          rw [HRF.out]
          exact ⟨_, rfl, HI.out, HQ.out, HW.out⟩
end Go.Proofs.YtbpfggkpfaobhaaGreat
