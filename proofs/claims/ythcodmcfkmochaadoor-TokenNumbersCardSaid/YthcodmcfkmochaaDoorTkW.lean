/-
  Package token: where a word ends.
-/
import Derived.Test.YthcodmcfkmochaaDoorTkF
import Derived.Deep.RegionHeld3
namespace Go.Proofs.YthcodmcfkmochaaDoor
open Go.RowKit
set_option linter.unusedVariables false
set_option linter.unusedSimpArgs false
set_option maxRecDepth 100000

/-- a scanner's own copy -/
theorem scbox (w : World) (s : ByteArray) (p : Int) : Below w.heap.size w (w.alloc (.cells #[.string s, .int .i64 p] 38)) ∧ ∀ w' : World, Below (w.alloc (.cells #[.string s, .int .i64 p] 38)).heap.size (w.alloc (.cells #[.string s, .int .i64 p] 38)) w' → w'.cell? ⟨w.heap.size, 0, none⟩ = some (.string s) ∧ w'.cell? ⟨w.heap.size, 1, none⟩ = some (.int .i64 p) := by
  refine ⟨(Below.refl w.heap.size w).alloc (Nat.le_refl _) _, fun w' h => ?_⟩
  have hlt : w.heap.size < (w.alloc (.cells #[.string s, .int .i64 p] 38)).heap.size := by simp
  have e := (h.block w.heap.size hlt).trans (heap_alloc_new w _)
  exact ⟨cell_of_row _ _ _ _ _ _ e, cell_of_row _ _ _ _ _ _ e⟩
theorem tat_int (s : ByteArray) (z : Int) (i : Nat) (h : z = i) (x : Nat) (hx : tAt (cods s) i = x) (w : World) : Calls Tryd.prog 24 #[.string s, .int .i64 z] w fun e w' => e = .returned (.int .u8 (x : Nat)) ∧ w = w' := by
  subst h
  subst hx
  exact tat_ok s i w
def RelE (W : World) (l : List Nat) (G : Nat → Nat → Nat) (R : Nat) (ev : Value) (wr : World) : Prop := ∃ j n : Nat, ev = .int .i64 j ∧ j ≤ l.length ∧ G n j = R ∧ l.length + 1 ≤ n + j ∧ Below W.heap.size W wr
set_option maxHeartbeats 4000000 in
theorem wordEnd_ok (s : ByteArray) (p : Nat) (w : World) (hp : p < s.size) (hs : s.size ≤ 100000) :
    Calls Tryd.prog 28 #[.agg #[.string s, .int .i64 (p : Nat)]] w fun e w' => e = .returned (.int .i64 (wEnd (cods s) p : Nat)) ∧ Below w.heap.size w w' := by
  obtain ⟨hb0, hk⟩ := scbox w s p
  have HB0 := Lib.hid hb0
  have HK := Lib.hid hk
  have HAT := Lib.hid (fun z i h x hx w => tat_int s z i h x hx w)
  have hlen := cods_length s
  obtain ⟨R, hR⟩ : ∃ R, wEnd (cods s) p = R := ⟨_, rfl⟩
  rw [hR]
  have HG0 := Lib.hid (show wGo (cods s) p (s.size + 1) (p + 1) = R by rw [← hR]; unfold wEnd; rw [hlen])
  have HL := Lib.hid hlen
  generalize cods s = l at *
  clear hb0 hk hR hlen
  go_enter Tryd.func28, Tryd.ntmps28
  go_wp2_with fail
  generalize w.alloc (.cells #[.string s, .int .i64 (p : Nat)] 38) = W at *
  go_loopw [3] (fun ev wr => RelE W l (wGo l p) R ev wr) (fun ev _ => s.size + 1 - (intOf ev).toNat)
  case atStart => exact ⟨p + 1, s.size + 1, by go_num, by rw [HL.out]; exact hp, HG0.out, by rw [HL.out]; omega, Below.refl _ _⟩
  case round =>
    clear HG0
    obtain ⟨j, n, rfl, hj, hgo, hn, hb⟩ := hrel
    rw [HL.out] at hj hn
    obtain ⟨m, rfl⟩ : ∃ m, n = m + 1 := ⟨n - 1, by omega⟩
    have HGO := Lib.hid hgo
    have HB := Lib.hid hb.drew
    obtain ⟨k0, k1⟩ := HK.out wr hb
    have q1 : IntKind.i64.wrap ((j : Int) + 1) = (j : Int) + 1 := by rw [IntKind.wrap_i64]; omega
    obtain ⟨x, hx⟩ : ∃ x, tAt l j = x := ⟨_, rfl⟩
    obtain ⟨y, hy⟩ : ∃ y, tAt l (j + 1) = y := ⟨_, rfl⟩
    have HA0 := Lib.hid (fun (z : Int) (h : z = j) w => HAT.out z j h x hx w)
    have HA1 := Lib.hid (fun (z : Int) (h : z = (j : Int) + 1) w => HAT.out z (j + 1) (by omega) y hy w)
    have HLx := Lib.hid (fun w => tlt_ok x w)
    have HDx := Lib.hid (fun w => tdg_ok x w)
    have HLy := Lib.hid (fun w => tlt_ok y w)
    have HDy := Lib.hid (fun w => tdg_ok y w)
    have HX := Lib.hid hx
    have HY := Lib.hid hy
    clear hgo hb hx hy
    go_wp2_with fail
    go_region_held3 (fun w' => w'.cell? ⟨w.heap.size, 0, none⟩ = some (.string s)) (first | exact k0) (first | (go_at_call 24; refine (HA0.out _ (by first | rfl | omega) _).mono ?_; rintro e w5 ⟨rfl, rfl⟩) | (go_at_call 24; refine (HA1.out _ (by first | exact q1 | rfl | omega) _).mono ?_; rintro e w5 ⟨rfl, rfl⟩))
    clear k0 k1 HA0 HA1
    generalize World.drew wr = wd at *
    obtain ⟨k0, k1⟩ := HK.out wd HB.out
    cases hlx : isLt x with
    | true =>
      rw [hlx] at HLx
      have hA : isA (tAt l j) = true := by rw [HX.out]; unfold isA; rw [hlx]; rfl
      have h1 := isA_in hA
      rw [HL.out] at h1
      have HN := Lib.hid ((wGo_step hA).symm.trans HGO.out)
      clear hlx hA
      go_wp2_with fail
      refine (HLx.out _).mono ?_
      rintro e w5 ⟨rfl, rfl⟩
      go_wp2_with fail
      go_roundw
      case rel => exact ⟨j + 1, m, by go_num, by rw [HL.out]; exact h1, HN.out, by rw [HL.out]; omega, HB.out⟩
      case measure => simp [intOf]; omega
    | false =>
      rw [hlx] at HLx
      cases hdx : isDg x with
      | true =>
        rw [hdx] at HDx
        have hA : isA (tAt l j) = true := by rw [HX.out]; unfold isA; rw [hlx, hdx]; rfl
        have h1 := isA_in hA
        rw [HL.out] at h1
        have HN := Lib.hid ((wGo_step hA).symm.trans HGO.out)
        clear hlx hdx hA
        go_wp2_with fail
        refine (HLx.out _).mono ?_
        rintro e w5 ⟨rfl, rfl⟩
        go_wp2_with fail
        refine (HDx.out _).mono ?_
        rintro e w5 ⟨rfl, rfl⟩
        go_wp2_with fail
        go_roundw
        case rel => exact ⟨j + 1, m, by go_num, by rw [HL.out]; exact h1, HN.out, by rw [HL.out]; omega, HB.out⟩
        case measure => simp [intOf]; omega
      | false =>
        rw [hdx] at HDx
        have hA : ¬ isA (tAt l j) = true := by rw [HX.out]; unfold isA; rw [hlx, hdx]; decide
        have HNA := Lib.hid hA
        clear hlx hdx hA
        by_cases hx : x = 45
        · have q2 : ((x : Int) == 45) = true := by rw [hx]; rfl
          have q3 : ((x : Int) != 45) = false := by rw [hx]; rfl
          by_cases hy : y = 45
          · have q4 : ((y : Int) == 45) = true := by rw [hy]; rfl
            have HE := Lib.hid ((wGo_end HNA.out (.inr (HY.out.trans hy))).symm.trans HGO.out)
            clear hx hy
            go_wp2_with fail
            refine (HLx.out _).mono ?_
            rintro e w5 ⟨rfl, rfl⟩
            go_wp2_with fail
            refine (HDx.out _).mono ?_
            rintro e w5 ⟨rfl, rfl⟩
            go_wp2_with fail
            go_ret
            rw [← HE.out]
            exact ⟨rfl, HB0.out.trans (HB.out.mono HB0.out.size)⟩
          · have q4 : ((y : Int) == 45) = false := beq_false_of_ne (by omega)
            have q5 : decide (y = 45) = false := decide_eq_false hy
            have hno : ¬ (tAt l j ≠ 45 ∨ tAt l (j + 1) = 45) := by rw [HX.out, HY.out]; omega
            have HNO := Lib.hid hno
            clear hx hy hno
            cases hly : isLt y with
            | true =>
              rw [hly] at HLy
              have hA : isA (tAt l (j + 1)) = true := by rw [HY.out]; unfold isA; rw [hly]; rfl
              have h1 := isA_in hA
              rw [HL.out] at h1
              have HN := Lib.hid ((wGo_two HNA.out HNO.out hA).symm.trans HGO.out)
              clear hly hA
              go_wp2_with fail
              refine (HLx.out _).mono ?_
              rintro e w5 ⟨rfl, rfl⟩
              go_wp2_with fail
              refine (HDx.out _).mono ?_
              rintro e w5 ⟨rfl, rfl⟩
              go_wp2_with fail
              refine (HLy.out _).mono ?_
              rintro e w5 ⟨rfl, rfl⟩
              go_wp2_with fail
              go_roundw
              case rel => exact ⟨j + 2, m, by go_num, by rw [HL.out]; omega, HN.out, by rw [HL.out]; omega, HB.out⟩
              case measure => simp [intOf]; omega
            | false =>
              rw [hly] at HLy
              cases hdy : isDg y with
              | true =>
                rw [hdy] at HDy
                have hA : isA (tAt l (j + 1)) = true := by rw [HY.out]; unfold isA; rw [hly, hdy]; rfl
                have h1 := isA_in hA
                rw [HL.out] at h1
                have HN := Lib.hid ((wGo_two HNA.out HNO.out hA).symm.trans HGO.out)
                clear hly hdy hA
                go_wp2_with fail
                refine (HLx.out _).mono ?_
                rintro e w5 ⟨rfl, rfl⟩
                go_wp2_with fail
                refine (HDx.out _).mono ?_
                rintro e w5 ⟨rfl, rfl⟩
                go_wp2_with fail
                refine (HLy.out _).mono ?_
                rintro e w5 ⟨rfl, rfl⟩
                go_wp2_with fail
                refine (HDy.out _).mono ?_
                rintro e w5 ⟨rfl, rfl⟩
                go_wp2_with fail
                go_roundw
                case rel => exact ⟨j + 2, m, by go_num, by rw [HL.out]; omega, HN.out, by rw [HL.out]; omega, HB.out⟩
                case measure => simp [intOf]; omega
              | false =>
                rw [hdy] at HDy
                have hA : ¬ isA (tAt l (j + 1)) = true := by rw [HY.out]; unfold isA; rw [hly, hdy]; decide
                have HE := Lib.hid ((wGo_bad HNA.out HNO.out hA).symm.trans HGO.out)
                clear hly hdy hA
                go_wp2_with fail
                refine (HLx.out _).mono ?_
                rintro e w5 ⟨rfl, rfl⟩
                go_wp2_with fail
                refine (HDx.out _).mono ?_
                rintro e w5 ⟨rfl, rfl⟩
                go_wp2_with fail
                refine (HLy.out _).mono ?_
                rintro e w5 ⟨rfl, rfl⟩
                go_wp2_with fail
                refine (HDy.out _).mono ?_
                rintro e w5 ⟨rfl, rfl⟩
                go_wp2_with fail
                go_ret
                rw [← HE.out]
                exact ⟨rfl, HB0.out.trans (HB.out.mono HB0.out.size)⟩
        · have q2 : ((x : Int) == 45) = false := beq_false_of_ne (by omega)
          have q3 : ((x : Int) != 45) = true := by simp; omega
          have q5 : decide (x = 45) = false := decide_eq_false hx
          have HE := Lib.hid ((wGo_end HNA.out (.inl (by rw [HX.out]; exact hx))).symm.trans HGO.out)
          clear hx
          go_wp2_with fail
          refine (HLx.out _).mono ?_
          rintro e w5 ⟨rfl, rfl⟩
          go_wp2_with fail
          refine (HDx.out _).mono ?_
          rintro e w5 ⟨rfl, rfl⟩
          go_wp2_with fail
          go_ret
          rw [← HE.out]
          exact ⟨rfl, HB0.out.trans (HB.out.mono HB0.out.size)⟩
end Go.Proofs.YthcodmcfkmochaaDoor
