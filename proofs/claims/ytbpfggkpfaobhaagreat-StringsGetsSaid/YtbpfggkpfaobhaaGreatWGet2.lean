/-
  whole.Get, whatever it is given.
-/
import Derived.Test.YtbpfggkpfaobhaaGreatWGet
namespace Go.Proofs.YtbpfggkpfaobhaaGreat
open Go.RowKit
set_option linter.unusedVariables false
set_option linter.unusedSimpArgs false
set_option maxRecDepth 100000

/-- the forms of one and two octets -/
theorem getAl_mid (w : World) (b : Nat) {s : Value} (L : List Nat) (p R k : Nat) (hk : k = 8 ∧ R = 255 ∨ k = 16 ∧ 255 < R ∧ R ≤ 65535) (h : RdAt w b s L p) (hL : L.length ≤ 1000000000) :
    Calls Tryz.prog 96 #[.pointer (some ⟨b, 0, none⟩), .int .u64 R] w fun e' w' => RdC w b s L (rdMid L p k) e' w' := by
  have hR : R ≤ 65535 := by omega
  have q1 : decide ((65535 : Int) < (R : Int)) = false := decide_eq_false (by omega)
  have HW := Lib.hid (width_ok R w (by omega))
  have HR := Lib.hid h
  clear h
  unfold rdMid
  by_cases ha : aerr L p = 0
  · rw [if_pos ha]
    have HA : Go.RowKit.Hid (∀ w, RdAt w b s L p → Calls Tryz.prog 69 #[.pointer (some ⟨b, 0, none⟩)] w fun e w' => e = .returned (.int .i64 0) ∧ RdAt w' b s L (apos L p) ∧ Only b w w') := fun w h => by
      have := ralign_all w b L p h (by omega)
      rwa [ha] at this
    clear ha
    generalize apos L p = q at *
    have HG := Lib.hid (fun w h => get_any w b (s := s) L q k h (by omega))
    unfold rdPlain
    generalize gerr L q k = ge at *
    generalize gval L q k = gv at *
    generalize gpos L q k = gp at *
    rcases hk with ⟨hk1, hk2⟩ | ⟨hk1, hk2, hk3⟩
    · subst hk1
      subst hk2
      have HW : Go.RowKit.Hid (Calls Tryz.prog 48 #[.int .u64 255] w fun e w' => e = .returned (.int .i64 8) ∧ w = w') := HW
      go_enter Tryz.func96, Tryz.ntmps96
      go_wp2_with fail
      refine HW.out.mono ?_
      rintro e' w1 ⟨rfl, rfl⟩
      go_wp2_with fail
      refine (HA.out w HR.out).mono ?_
      rintro e' w2 ⟨rfl, h1, h2⟩
      have H3 := Lib.hid h1
      have H4 := Lib.hid h2
      clear h1 h2 HA HR
      go_wp2_with fail
      refine (HG.out w2 H3.out).mono ?_
      rintro e' w3 ⟨rfl, h1, h2⟩
      have H5 := Lib.hid h1
      have H6 := Lib.hid (H4.out.trans h2)
      clear h1 h2 H3 H4
      go_wp2_with fail
      go_ret2
      exact ⟨rfl, H5.out, H6.out⟩
    · subst hk1
      have q2 : decide ((255 : Int) < (R : Int)) = true := decide_eq_true (by omega)
      generalize wid R = k at *
      go_enter Tryz.func96, Tryz.ntmps96
      go_wp2_with fail
      refine HW.out.mono ?_
      rintro e' w1 ⟨rfl, rfl⟩
      go_wp2_with fail
      refine (HA.out w HR.out).mono ?_
      rintro e' w2 ⟨rfl, h1, h2⟩
      have H3 := Lib.hid h1
      have H4 := Lib.hid h2
      clear h1 h2 HA HR
      go_wp2_with fail
      refine (HG.out w2 H3.out).mono ?_
      rintro e' w3 ⟨rfl, h1, h2⟩
      have H5 := Lib.hid h1
      have H6 := Lib.hid (H4.out.trans h2)
      clear h1 h2 H3 H4
      go_wp2_with fail
      go_ret2
      exact ⟨rfl, H5.out, H6.out⟩
  · rw [if_neg ha]
    obtain ⟨n1, n2⟩ := ne_facts ha
    have HA := Lib.hid (fun w h => ralign_all w b (s := s) L p h (by omega))
    clear ha
    generalize apos L p = q at *
    generalize aerr L p = ae at *
    have q2 : decide ((255 : Int) < (R : Int)) = false ∧ ((R : Int) == 255) = true ∨ decide ((255 : Int) < (R : Int)) = true := by
      rcases hk with ⟨_, hk2⟩ | ⟨_, hk2, _⟩
      · exact .inl ⟨decide_eq_false (by omega), by simp; omega⟩
      · exact .inr (decide_eq_true (by omega))
    clear hk
    generalize wid R = k at *
    rcases q2 with ⟨q2, q3⟩ | q2
    all_goals
      go_enter Tryz.func96, Tryz.ntmps96
      go_wp2_with fail
      refine HW.out.mono ?_
      rintro e' w1 ⟨rfl, rfl⟩
      go_wp2_with fail
      refine (HA.out w HR.out).mono ?_
      rintro e' w2 ⟨rfl, h1, h2⟩
      have H3 := Lib.hid h1
      have H4 := Lib.hid h2
      clear h1 h2 HA HR
      go_wp2_with fail
      go_ret2
      exact ⟨rfl, H3.out, H4.out⟩
theorem getAl_any (w : World) (b : Nat) {s : Value} (L : List Nat) (p R : Nat) (h : RdAt w b s L p) (hL : L.length ≤ 1000000000) (hR : R < 2 ^ 64) :
    Calls Tryz.prog 96 #[.pointer (some ⟨b, 0, none⟩), .int .u64 R] w fun e' w' => RdC w b s L (rdOff true L p R) e' w' := by
  by_cases h254 : R ≤ 254
  · rw [rdOff_small (.inr h254)]
    exact getAl_small w b L p R _ _ _ rfl h hL h254
  by_cases h255 : R = 255
  · rw [show rdOff true L p R = rdMid L p 8 by rw [h255]; exact rdOff_255 L p]
    exact getAl_mid w b L p R 8 (.inl ⟨rfl, h255⟩) h hL
  by_cases h16 : R ≤ 65535
  · rw [rdOff_16 (by omega) h16]
    exact getAl_mid w b L p R 16 (.inr ⟨rfl, by omega, h16⟩) h hL
  · rw [rdOff_big (by omega)]
    have q1 : decide ((65535 : Int) < (R : Int)) = true := decide_eq_true (by omega)
    have HW := Lib.hid (width_ok R w hR)
    have HG := Lib.hid (getOctets_ok w b L p R h hL hR)
    clear h
    generalize rdBig L p (cnt R - 1) = o at *
    obtain ⟨e, v, q⟩ := o
    generalize wid R = k at *
    go_enter Tryz.func96, Tryz.ntmps96
    go_wp2_with fail
    refine HW.out.mono ?_
    rintro e' w1 ⟨rfl, rfl⟩
    go_wp2_with fail
    refine HG.out.mono ?_
    rintro e' w2 ⟨rfl, h1, h2⟩
    have H3 := Lib.hid h1
    have H4 := Lib.hid h2
    clear h1 h2 HG
    go_wp2_with fail
    go_ret2
    exact ⟨rfl, H3.out, H4.out⟩
theorem getOff_any (w : World) (b : Nat) {s : Value} (L : List Nat) (p R : Nat) (al : Bool) (h : RdAt w b s L p) (hL : L.length ≤ 1000000000) (hR : R < 2 ^ 64) :
    Calls Tryz.prog 90 #[.pointer (some ⟨b, 0, none⟩), .bool al, .int .u64 R] w fun e' w' => RdC w b s L (rdOff al L p R) e' w' := by
  cases al with
  | true =>
    have HG := Lib.hid (getAl_any w b L p R h hL hR)
    clear h
    generalize rdOff true L p R = o at *
    obtain ⟨e, v, q⟩ := o
    go_enter Tryz.func90, Tryz.ntmps90
    go_wp2_with fail
    refine HG.out.mono ?_
    rintro e' w2 ⟨rfl, h1, h2⟩
    have H3 := Lib.hid h1
    have H4 := Lib.hid h2
    clear h1 h2 HG
    go_wp2_with fail
    go_ret2
    exact ⟨rfl, H3.out, H4.out⟩
  | false =>
    rw [rdOff_small (.inl rfl)]
    have HW := Lib.hid (width_ok R w hR)
    have HG := Lib.hid (get_any w b L p (wid R) h (by omega))
    clear h
    unfold rdPlain
    generalize wid R = k at *
    generalize gerr L p k = ge at *
    generalize gval L p k = gv at *
    generalize gpos L p k = gp at *
    go_enter Tryz.func90, Tryz.ntmps90
    go_wp2_with fail
    refine HW.out.mono ?_
    rintro e' w1 ⟨rfl, rfl⟩
    go_wp2_with fail
    refine HG.out.mono ?_
    rintro e' w2 ⟨rfl, h1, h2⟩
    have H3 := Lib.hid h1
    have H4 := Lib.hid h2
    clear h1 h2 HG
    go_wp2_with fail
    go_ret2
    exact ⟨rfl, H3.out, H4.out⟩
theorem wget_any (w : World) (b : Nat) {s : Value} (L : List Nat) (p : Nat) (al : Bool) (lo hi : Int) (h : RdAt w b s L p) (hL : L.length ≤ 1000000000) (b2 : -9223372036854775808 ≤ lo ∧ lo ≤ 9223372036854775807) (b3 : -9223372036854775808 ≤ hi ∧ hi ≤ 9223372036854775807) :
    Calls Tryz.prog 84 #[.pointer (some ⟨b, 0, none⟩), .bool al, .int .i64 lo, .int .i64 hi] w fun e' w' =>
      e' = .returned (.tuple #[.int .i64 (gN al L p lo hi), .int .i64 (gE al L p lo hi)]) ∧ RdAt w' b s L (gP al L p lo hi) ∧ Only b w w' := by
  by_cases hlh : hi < lo
  · obtain ⟨g1, g2, g3⟩ := gE_arg (al := al) (L := L) (p := p) hlh
    rw [g1, g2, g3]
    have q1 : decide (hi < lo) = true := decide_eq_true hlh
    have HR := Lib.hid h
    clear h g1 g2 g3
    go_enter Tryz.func84, Tryz.ntmps84
    go_wp2_with fail
    go_ret2
    exact ⟨rfl, HR.out, Only.refl _ _⟩
  · have hP : gP al L p lo hi = (rdOff al L p (hi - lo).toNat).p := if_neg hlh
    rw [hP]
    refine wget_from w b L al lo hi b2.1 b3.2 (by omega) _ _ _ (getOff_any w b L p (hi - lo).toNat al h hL (by omega)) _ _ ?_ rfl
    unfold gE
    rw [if_neg hlh]
theorem wget_nil (w : World) (al : Bool) (lo hi : Int) :
    Calls Tryz.prog 84 #[.pointer none, .bool al, .int .i64 lo, .int .i64 hi] w fun e w' => e = .returned (.tuple #[.int .i64 0, .int .i64 1]) ∧ w = w' := by
  go_enter Tryz.func84, Tryz.ntmps84
  go_wp2_with fail
  go_ret2
  exact ⟨rfl, rfl⟩
end Go.Proofs.YtbpfggkpfaobhaaGreat
