/-
  The walks of package whole that read.
-/
import Derived.Test.YtbpfggkpfaobhaaGreatWhole
namespace Go.Proofs.YtbpfggkpfaobhaaGreat
open Go.RowKit
set_option linter.unusedVariables false
set_option linter.unusedSimpArgs false
set_option maxRecDepth 100000

theorem back_num (lo : Int) (v : Nat) (h1 : -9223372036854775808 ≤ lo) (h3 : lo + v ≤ 9223372036854775807) : wrap64 (IntKind.u64.wrap (IntKind.u64.wrap lo + v)) = lo + v := by
  simp only [wrap64, IntKind.wrap, IntKind.signed, IntKind.bits]
  simp
  omega
theorem olst_len (L : List Nat) (p : Nat) (z : Int) : (olst L p z).length ≤ z.toNat := by
  unfold olst
  split
  · rw [octetsAt_length]; exact Nat.le_refl _
  · simp
theorem plain_parts {L : List Nat} {p k : Nat} {e : Int} {v q : Nat} (h : rdPlain L p k = ⟨e, v, q⟩) : gerr L p k = e ∧ gval L p k = v ∧ gpos L p k = q := by
  unfold rdPlain at h
  injection h with h1 h2 h3
  exact ⟨h1, h2, h3⟩
theorem getAl_small (w : World) (b : Nat) {s : Value} (L : List Nat) (p R : Nat) (e : Int) (v q : Nat) (hr : rdPlain L p (wid R) = ⟨e, v, q⟩) (h : RdAt w b s L p) (hL : L.length ≤ 1000000000) (hR : R ≤ 254) :
    Calls Tryz.prog 96 #[.pointer (some ⟨b, 0, none⟩), .int .u64 R] w fun e' w' =>
      e' = .returned (.tuple #[.int .u64 v, .int .i64 e]) ∧ RdAt w' b s L q ∧ Only b w w' := by
  have q1 : decide ((65535 : Int) < (R : Int)) = false := decide_eq_false (by omega)
  have q2 : decide ((255 : Int) < (R : Int)) = false := decide_eq_false (by omega)
  have q3 : ((R : Int) == 255) = false := by simp; omega
  have HC := Lib.hid (width_ok R w (by omega))
  have HG := Lib.hid (get_any w b L p (wid R) h (by omega))
  obtain ⟨r1, r2, r3⟩ := plain_parts hr
  rw [r1, r2, r3] at HG
  clear h r1 r2 r3 hr
  generalize wid R = k at *
  go_enter Tryz.func96, Tryz.ntmps96
  go_wp2_with fail
  refine HC.out.mono ?_
  rintro e' w1 ⟨rfl, rfl⟩
  go_wp2_with fail
  refine HG.out.mono ?_
  rintro e' w1 ⟨rfl, h1, h2⟩
  have H1 := Lib.hid h1
  have H2 := Lib.hid h2
  clear h1 h2
  go_wp2_with fail
  go_ret2
  exact ⟨rfl, H1.out, H2.out⟩
theorem getOff_small (w : World) (b : Nat) {s : Value} (L : List Nat) (p R : Nat) (e : Int) (v q : Nat) (hr : rdPlain L p (wid R) = ⟨e, v, q⟩) (h : RdAt w b s L p) (hL : L.length ≤ 1000000000) (hR : R ≤ 254) :
    Calls Tryz.prog 90 #[.pointer (some ⟨b, 0, none⟩), .bool true, .int .u64 R] w fun e' w' =>
      e' = .returned (.tuple #[.int .u64 v, .int .i64 e]) ∧ RdAt w' b s L q ∧ Only b w w' := by
  have HG := Lib.hid (getAl_small w b L p R e v q hr h hL hR)
  clear h hr
  go_enter Tryz.func90, Tryz.ntmps90
  go_wp2_with fail
  refine HG.out.mono ?_
  rintro e' w1 ⟨rfl, h1, h2⟩
  have H1 := Lib.hid h1
  have H2 := Lib.hid h2
  clear h1 h2
  go_wp2_with fail
  go_ret2
  exact ⟨rfl, H1.out, H2.out⟩
/-- whole.Get from any contract of its inner call -/
theorem wget_from (w : World) (b : Nat) {s : Value} (L : List Nat) (al : Bool) (lo hi : Int) (b2 : -9223372036854775808 ≤ lo) (b3 : hi ≤ 9223372036854775807) (hlh : lo ≤ hi) (e : Int) (v q : Nat)
    (hc : Calls Tryz.prog 90 #[.pointer (some ⟨b, 0, none⟩), .bool al, .int .u64 ((hi - lo).toNat : Nat)] w fun e' w' => e' = .returned (.tuple #[.int .u64 v, .int .i64 e]) ∧ RdAt w' b s L q ∧ Only b w w')
    (E N : Int) (hE : E = if e ≠ 0 then e else if (hi - lo).toNat < v then 4 else 0) (hN : N = if E = 0 then lo + v else 0) :
    Calls Tryz.prog 84 #[.pointer (some ⟨b, 0, none⟩), .bool al, .int .i64 lo, .int .i64 hi] w fun e' w' =>
      e' = .returned (.tuple #[.int .i64 N, .int .i64 E]) ∧ RdAt w' b s L q ∧ Only b w w' := by
  have q1 : decide (hi < lo) = false := decide_eq_false (by omega)
  have HO := Lib.hid (offset_ok hi lo w b2 hlh b3)
  have hR : ((hi - lo).toNat : Int) = hi - lo := by omega
  generalize (hi - lo).toNat = R at *
  have HG := Lib.hid hc
  clear hc
  by_cases he : e = 0
  · subst he
    by_cases hv : R < v
    · have hE1 : E = 4 := by rw [hE, if_neg (by simp), if_pos hv]
      subst hE1
      have hN1 : N = 0 := by rw [hN]; rfl
      subst hN1
      have q2 : decide ((R : Int) < (v : Int)) = true := decide_eq_true (by omega)
      clear hE hN hR
      go_enter Tryz.func84, Tryz.ntmps84
      go_wp2_with fail
      refine HO.out.mono ?_
      rintro e' w1 ⟨rfl, rfl⟩
      go_wp2_with fail
      refine HG.out.mono ?_
      rintro e' w1 ⟨rfl, h1, h2⟩
      have H1 := Lib.hid h1
      have H2 := Lib.hid h2
      clear h1 h2
      go_wp2_with fail
      go_ret2
      exact ⟨rfl, H1.out, H2.out⟩
    · have hE1 : E = 0 := by rw [hE, if_neg (by simp), if_neg hv]
      subst hE1
      have hN1 : N = lo + v := by rw [hN]; rfl
      have q2 : decide ((R : Int) < (v : Int)) = false := decide_eq_false (by omega)
      have hb := back_num lo v b2 (by omega)
      rw [← hN1] at hb
      have HB := Lib.hid hb
      clear hE hN hN1 hR hb
      go_enter Tryz.func84, Tryz.ntmps84
      go_wp2_with fail
      refine HO.out.mono ?_
      rintro e' w1 ⟨rfl, rfl⟩
      go_wp2_with fail
      refine HG.out.mono ?_
      rintro e' w1 ⟨rfl, h1, h2⟩
      have H1 := Lib.hid h1
      have H2 := Lib.hid h2
      clear h1 h2
      go_wp2_with fail
      go_ret2
      refine ⟨?_, H1.out, H2.out⟩
      rw [← HB.out]
      rfl
  · have hE1 : E = e := by rw [hE, if_pos he]
    subst hE1
    have hN1 : N = 0 := by rw [hN, if_neg he]
    subst hN1
    have q2 : (E != 0) = true := by simpa using he
    have q3 : (E == 0) = false := by simpa using he
    clear hE hN hR
    go_enter Tryz.func84, Tryz.ntmps84
    go_wp2_with fail
    refine HO.out.mono ?_
    rintro e' w1 ⟨rfl, rfl⟩
    go_wp2_with fail
    refine HG.out.mono ?_
    rintro e' w1 ⟨rfl, h1, h2⟩
    have H1 := Lib.hid h1
    have H2 := Lib.hid h2
    clear h1 h2
    go_wp2_with fail
    go_ret2
    exact ⟨rfl, H1.out, H2.out⟩
/-- whole.Get, aligned, from 1 to a small bound -/
theorem wget_small (w : World) (b : Nat) {s : Value} (L : List Nat) (p hi : Nat) (h : RdAt w b s L p) (hL : L.length ≤ 1000000000) (h1 : 1 ≤ hi) (h100 : hi ≤ 100) (E N : Int)
    (hE : E = if gerr L p (wid (hi - 1)) ≠ 0 then gerr L p (wid (hi - 1)) else if hi - 1 < gval L p (wid (hi - 1)) then 4 else 0) (hN : N = if E = 0 then (1 : Int) + ((gval L p (wid (hi - 1)) : Nat) : Int) else 0) :
    Calls Tryz.prog 84 #[.pointer (some ⟨b, 0, none⟩), .bool true, .int .i64 1, .int .i64 hi] w fun e' w' =>
      e' = .returned (.tuple #[.int .i64 N, .int .i64 E]) ∧ RdAt w' b s L (gpos L p (wid (hi - 1))) ∧ Only b w w' := by
  have hR : ((hi : Int) - 1).toNat = hi - 1 := by omega
  refine wget_from w b L true 1 hi (by omega) (by omega) (by omega) (gerr L p (wid (hi - 1))) (gval L p (wid (hi - 1))) _ ?_ E N ?_ ?_
  · rw [hR]
    exact getOff_small w b L p (hi - 1) _ _ _ rfl h hL (by omega)
  · rw [hR]; exact hE
  · exact hN
def RdC (w : World) (b : Nat) (s : Value) (L : List Nat) (o : Rd) (e' : Ending) (w' : World) : Prop := e' = .returned (.tuple #[.int .u64 o.v, .int .i64 o.e]) ∧ RdAt w' b s L o.p ∧ Only b w w'
theorem ne_facts {e : Int} (he : e ≠ 0) : (e != 0) = true ∧ (e == 0) = false := ⟨by simpa using he, by simpa using he⟩
theorem getOctets_ok (w : World) (b : Nat) {s : Value} (L : List Nat) (p R : Nat) (h : RdAt w b s L p) (hL : L.length ≤ 1000000000) (hR : R < 2 ^ 64) :
    Calls Tryz.prog 100 #[.pointer (some ⟨b, 0, none⟩), .int .u64 R] w fun e' w' => RdC w b s L (rdBig L p (cnt R - 1)) e' w' := by
  have hc1 := cnt_pos R
  have hc8 := cnt_le R hR
  have HC := Lib.hid (count_ok R w hR)
  unfold rdBig
  generalize cnt R = c at *
  by_cases he : gerr L p (wid (c - 1)) = 0
  · rw [if_pos he]
    by_cases hv : c - 1 < gval L p (wid (c - 1))
    · rw [if_pos hv]
      have HG := Lib.hid (wget_small w b L p c h hL hc1 (by omega) 4 0 (by rw [he, if_neg (by simp), if_pos hv]) rfl)
      clear h he hv hc8
      generalize gpos L p (wid (c - 1)) = q at *
      go_enter Tryz.func100, Tryz.ntmps100
      go_wp2_with fail
      refine HC.out.mono ?_
      rintro e' w1 ⟨rfl, rfl⟩
      go_wp2_with fail
      refine HG.out.mono ?_
      rintro e' w1 ⟨rfl, h1, h2⟩
      have H1 := Lib.hid h1
      have H2 := Lib.hid h2
      clear h1 h2
      go_wp2_with fail
      go_ret2
      exact ⟨rfl, H1.out, H2.out⟩
    · rw [if_neg hv]
      have HG := Lib.hid (wget_small w b L p c h hL hc1 (by omega) 0 (1 + gval L p (wid (c - 1)) : Nat) (by rw [he, if_neg (by simp), if_neg hv]) (by rw [if_pos rfl]; omega))
      have hn : 1 + gval L p (wid (c - 1)) ≤ 8 := by omega
      clear h he hv hc8
      generalize gpos L p (wid (c - 1)) = q at *
      generalize 1 + gval L p (wid (c - 1)) = n at *
      unfold rdAl
      by_cases ha : aerr L q = 0
      · rw [if_pos ha]
        have HA : Go.RowKit.Hid (∀ w, RdAt w b s L q → Calls Tryz.prog 69 #[.pointer (some ⟨b, 0, none⟩)] w fun e w' => e = .returned (.int .i64 0) ∧ RdAt w' b s L (apos L q) ∧ Only b w w') := fun w h => by
          have := ralign_all w b L q h (by omega)
          rwa [ha] at this
        clear ha
        generalize apos L q = q2 at *
        unfold rdOcts
        have hol := olst_len L q2 n
        by_cases ho : oerr L q2 n = 0
        · rw [if_pos ho]
          have HO : Go.RowKit.Hid (∀ w, RdAt w b s L q2 → Calls Tryz.prog 31 #[.pointer (some ⟨b, 0, none⟩), .int .i64 n] w fun e w' => ∃ v, e = .returned (.tuple #[v, .int .i64 0]) ∧ SlAt w' v (olst L q2 n) ∧ RdAt w' b s L (opos L q2 n) ∧ Only b w w') := fun w h => by
            have := roctets_any w b L q2 n h (by omega)
            rwa [ho] at this
          clear ho
          generalize opos L q2 n = q3 at *
          generalize olst L q2 n = l at *
          have HF := Lib.hid (fun w s h => fromU_ok w s l h (by omega))
          generalize uerr l = ue at *
          generalize uval l = uv at *
          clear hol hn
          go_enter Tryz.func100, Tryz.ntmps100
          go_wp2_with fail
          refine HC.out.mono ?_
          rintro e' w1 ⟨rfl, rfl⟩
          go_wp2_with fail
          refine HG.out.mono ?_
          rintro e' w1 ⟨rfl, h1, h2⟩
          have H1 := Lib.hid h1
          have H2 := Lib.hid h2
          clear h1 h2 HG HC
          go_wp2_with fail
          refine (HA.out w1 H1.out).mono ?_
          rintro e' w2 ⟨rfl, h1, h2⟩
          have H3 := Lib.hid h1
          have H4 := Lib.hid (H2.out.trans h2)
          clear h1 h2 H1 H2 HA
          go_wp2_with fail
          refine (HO.out w2 H3.out).mono ?_
          rintro e' w3 ⟨sv, rfl, hs, h1, h2⟩
          have H5 := Lib.hid h1
          have H6 := Lib.hid (H4.out.trans h2)
          have HS := Lib.hid hs
          clear h1 h2 H3 H4 hs HO
          go_wp2_with fail
          refine (HF.out w3 sv HS.out).mono ?_
          rintro e' w4 ⟨rfl, rfl⟩
          go_wp2_with fail
          go_ret2
          exact ⟨rfl, H5.out, H6.out⟩
        · rw [if_neg ho]
          obtain ⟨n1, n2⟩ := ne_facts ho
          have HO := Lib.hid (fun w h => roctets_any w b (s := s) L q2 n h (by omega))
          clear ho
          generalize opos L q2 n = q3 at *
          generalize olst L q2 n = l at *
          generalize oerr L q2 n = oe at *
          clear hol hn
          go_enter Tryz.func100, Tryz.ntmps100
          go_wp2_with fail
          refine HC.out.mono ?_
          rintro e' w1 ⟨rfl, rfl⟩
          go_wp2_with fail
          refine HG.out.mono ?_
          rintro e' w1 ⟨rfl, h1, h2⟩
          have H1 := Lib.hid h1
          have H2 := Lib.hid h2
          clear h1 h2 HG HC
          go_wp2_with fail
          refine (HA.out w1 H1.out).mono ?_
          rintro e' w2 ⟨rfl, h1, h2⟩
          have H3 := Lib.hid h1
          have H4 := Lib.hid (H2.out.trans h2)
          clear h1 h2 H1 H2 HA
          go_wp2_with fail
          refine (HO.out w2 H3.out).mono ?_
          rintro e' w3 ⟨sv, rfl, hs, h1, h2⟩
          have H5 := Lib.hid h1
          have H6 := Lib.hid (H4.out.trans h2)
          clear h1 h2 H3 H4 hs HO
          go_wp2_with fail
          go_ret2
          exact ⟨rfl, H5.out, H6.out⟩
      · rw [if_neg ha]
        obtain ⟨n1, n2⟩ := ne_facts ha
        have HA := Lib.hid (fun w h => ralign_all w b (s := s) L q h (by omega))
        clear ha
        generalize apos L q = q2 at *
        generalize aerr L q = ae at *
        clear hn
        go_enter Tryz.func100, Tryz.ntmps100
        go_wp2_with fail
        refine HC.out.mono ?_
        rintro e' w1 ⟨rfl, rfl⟩
        go_wp2_with fail
        refine HG.out.mono ?_
        rintro e' w1 ⟨rfl, h1, h2⟩
        have H1 := Lib.hid h1
        have H2 := Lib.hid h2
        clear h1 h2 HG HC
        go_wp2_with fail
        refine (HA.out w1 H1.out).mono ?_
        rintro e' w2 ⟨rfl, h1, h2⟩
        have H3 := Lib.hid h1
        have H4 := Lib.hid (H2.out.trans h2)
        clear h1 h2 H1 H2 HA
        go_wp2_with fail
        go_ret2
        exact ⟨rfl, H3.out, H4.out⟩
  · rw [if_neg he]
    have HG := Lib.hid (wget_small w b L p c h hL hc1 (by omega) (gerr L p (wid (c - 1))) 0 (by rw [if_pos he]) (by rw [if_neg he]))
    obtain ⟨n1, n2⟩ := ne_facts he
    clear h he hc8
    generalize gpos L p (wid (c - 1)) = q at *
    generalize gerr L p (wid (c - 1)) = ge at *
    go_enter Tryz.func100, Tryz.ntmps100
    go_wp2_with fail
    refine HC.out.mono ?_
    rintro e' w1 ⟨rfl, rfl⟩
    go_wp2_with fail
    refine HG.out.mono ?_
    rintro e' w1 ⟨rfl, h1, h2⟩
    have H1 := Lib.hid h1
    have H2 := Lib.hid h2
    clear h1 h2
    go_wp2_with fail
    go_ret2
    exact ⟨rfl, H1.out, H2.out⟩
end Go.Proofs.YtbpfggkpfaobhaaGreat
