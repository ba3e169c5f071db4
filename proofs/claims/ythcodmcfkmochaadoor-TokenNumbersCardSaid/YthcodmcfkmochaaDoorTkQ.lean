/-
  Package token: where a text in quotes ends.
-/
import Derived.Test.YthcodmcfkmochaaDoorTkW
namespace Go.Proofs.YthcodmcfkmochaaDoor
open Go.RowKit
set_option linter.unusedVariables false
set_option linter.unusedSimpArgs false
set_option maxRecDepth 100000

set_option maxHeartbeats 4000000 in
theorem quotedEnd_ok (s : ByteArray) (p : Nat) (w : World) (hp : p < s.size) (hs : s.size ≤ 100000) :
    Calls Tryd.prog 31 #[.agg #[.string s, .int .i64 (p : Nat)]] w fun e w' => e = .returned (.int .i64 (qEnd (cods s) p : Nat)) ∧ Below w.heap.size w w' := by
  obtain ⟨hb0, hk⟩ := scbox w s p
  have HB0 := Lib.hid hb0
  have HK := Lib.hid hk
  have HAT := Lib.hid (fun z i h x hx w => tat_int s z i h x hx w)
  have hlen := cods_length s
  obtain ⟨R, hR⟩ : ∃ R, qEnd (cods s) p = R := ⟨_, rfl⟩
  rw [hR]
  have HG0 := Lib.hid (show qGo (cods s) p (s.size + 1) (p + 1) = R by rw [← hR]; unfold qEnd; rw [hlen])
  have HL := Lib.hid hlen
  generalize cods s = l at *
  clear hb0 hk hR hlen
  go_enter Tryd.func31, Tryd.ntmps31
  go_wp2_with fail
  generalize w.alloc (.cells #[.string s, .int .i64 (p : Nat)] 38) = W at *
  go_loopw [3] (fun ev wr => RelE W l (qGo l p) R ev wr) (fun ev _ => s.size + 1 - (intOf ev).toNat)
  case atStart => exact ⟨p + 1, s.size + 1, by go_num, by rw [HL.out]; exact hp, HG0.out, by rw [HL.out]; omega, Below.refl _ _⟩
  case round =>
    clear HG0
    obtain ⟨j, n, rfl, hj, hgo, hn, hb⟩ := hrel
    rw [HL.out] at hj hn
    obtain ⟨m, rfl⟩ : ∃ m, n = m + 1 := ⟨n - 1, by omega⟩
    have HGO := Lib.hid hgo
    have HB := Lib.hid hb
    obtain ⟨k0, k1⟩ := HK.out wr hb
    obtain ⟨x, hx⟩ : ∃ x, tAt l j = x := ⟨_, rfl⟩
    obtain ⟨y, hy⟩ : ∃ y, tAt l (j + 1) = y := ⟨_, rfl⟩
    have HA0 := Lib.hid (fun w => HAT.out (j : Int) j rfl x hx w)
    have HA1 := Lib.hid (fun w => HAT.out ((j : Int) + 1) (j + 1) (by omega) y hy w)
    have HQx := Lib.hid (fun w => tqt_ok x w)
    have HX := Lib.hid hx
    have HY := Lib.hid hy
    clear hgo hb hx hy
    cases hqx : isQt x with
    | false =>
      rw [hqx] at HQx
      have HE := Lib.hid ((qGo_bad (by rw [HX.out, hqx]; decide)).symm.trans HGO.out)
      clear hqx
      go_wp2_with fail
      refine (HA0.out _).mono ?_
      rintro e w5 ⟨rfl, rfl⟩
      go_wp2_with fail
      refine (HQx.out _).mono ?_
      rintro e w5 ⟨rfl, rfl⟩
      go_wp2_with fail
      go_ret
      rw [← HE.out]
      exact ⟨rfl, HB0.out.trans (HB.out.mono HB0.out.size)⟩
    | true =>
      rw [hqx] at HQx
      have hQ : isQt (tAt l j) = true := by rw [HX.out]; exact hqx
      have h1 := isQt_in hQ
      rw [HL.out] at h1
      have HQ := Lib.hid hQ
      clear hqx hQ
      by_cases hx : x = 34
      · have q2 : ((x : Int) == 34) = true := by rw [hx]; rfl
        have q3 : ((x : Int) != 34) = false := by rw [hx]; rfl
        by_cases hy : y = 34
        · have q4 : ((y : Int) == 34) = true := by rw [hy]; rfl
          have hin := tAt_in (l := l) (i := j + 1) (by rw [HY.out, hy]; decide)
          rw [HL.out] at hin
          have HN := Lib.hid ((qGo_two HQ.out (HX.out.trans hx) (HY.out.trans hy)).symm.trans HGO.out)
          clear hx hy
          go_wp2_with fail
          refine (HA0.out _).mono ?_
          rintro e w5 ⟨rfl, rfl⟩
          go_wp2_with fail
          refine (HQx.out _).mono ?_
          rintro e w5 ⟨rfl, rfl⟩
          go_wp2_with fail
          refine (HA0.out _).mono ?_
          rintro e w5 ⟨rfl, rfl⟩
          go_wp2_with fail
          refine (HA1.out _).mono ?_
          rintro e w5 ⟨rfl, rfl⟩
          go_wp2_with fail
          go_roundw
          case rel => exact ⟨j + 2, m, by go_num, by rw [HL.out]; omega, HN.out, by rw [HL.out]; omega, HB.out⟩
          case measure => simp [intOf]; omega
        · have q4 : ((y : Int) == 34) = false := beq_false_of_ne (by omega)
          have q5 : decide (y = 34) = false := decide_eq_false hy
          have HE := Lib.hid ((qGo_end HQ.out (HX.out.trans hx) (by rw [HY.out]; exact hy)).symm.trans HGO.out)
          clear hx hy
          go_wp2_with fail
          refine (HA0.out _).mono ?_
          rintro e w5 ⟨rfl, rfl⟩
          go_wp2_with fail
          refine (HQx.out _).mono ?_
          rintro e w5 ⟨rfl, rfl⟩
          go_wp2_with fail
          refine (HA0.out _).mono ?_
          rintro e w5 ⟨rfl, rfl⟩
          go_wp2_with fail
          refine (HA1.out _).mono ?_
          rintro e w5 ⟨rfl, rfl⟩
          go_wp2_with fail
          go_ret
          rw [← HE.out]
          exact ⟨by go_num, HB0.out.trans (HB.out.mono HB0.out.size)⟩
      · have q2 : ((x : Int) == 34) = false := beq_false_of_ne (by omega)
        have q3 : ((x : Int) != 34) = true := by simp; omega
        have q5 : decide (x = 34) = false := decide_eq_false hx
        have HN := Lib.hid ((qGo_step HQ.out (by rw [HX.out]; exact hx)).symm.trans HGO.out)
        clear hx
        go_wp2_with fail
        refine (HA0.out _).mono ?_
        rintro e w5 ⟨rfl, rfl⟩
        go_wp2_with fail
        refine (HQx.out _).mono ?_
        rintro e w5 ⟨rfl, rfl⟩
        go_wp2_with fail
        refine (HA0.out _).mono ?_
        rintro e w5 ⟨rfl, rfl⟩
        go_wp2_with fail
        go_roundw
        case rel => exact ⟨j + 1, m, by go_num, by rw [HL.out]; omega, HN.out, by rw [HL.out]; omega, HB.out⟩
        case measure => simp [intOf]; omega
end Go.Proofs.YthcodmcfkmochaaDoor
