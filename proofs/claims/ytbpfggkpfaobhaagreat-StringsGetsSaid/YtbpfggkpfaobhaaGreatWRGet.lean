/-
  The document's answers for package whole: reading.
-/
import Derived.Test.YtbpfggkpfaobhaaGreatWRef
import Derived.Test.YtbpfggkpfaobhaaGreatM3
namespace Go.Proofs.YtbpfggkpfaobhaaGreat
open Go.RowKit
set_option linter.unusedVariables false
set_option linter.unusedSimpArgs false
set_option maxRecDepth 100000

theorem rback_num (lo : Int) (v : Nat) (h1 : -9223372036854775808 ≤ lo) (h3 : lo + v ≤ 9223372036854775807) : wrap64 (IntKind.u64.wrap (IntKind.u64.wrap lo + v)) = lo + v := by
  simp only [wrap64, IntKind.wrap, IntKind.signed, IntKind.bits]
  simp
  omega
theorem rolst_len (L : List Nat) (p : Nat) (z : Int) : (olst L p z).length ≤ z.toNat := by
  unfold olst
  split
  · rw [octetsAt_length]; exact Nat.le_refl _
  · simp
theorem rne_facts {e : Int} (he : e ≠ 0) : (e != 0) = true ∧ (e == 0) = false := ⟨by simpa using he, by simpa using he⟩
def QdC (w : World) (b : Nat) (L : List Nat) (o : Rd) (e' : Ending) (w' : World) : Prop := e' = .returned (.tuple #[.int .u64 o.v, .int .i64 o.e]) ∧ QAt w' b (bitsOf L) o.p ∧ Only b w w'
theorem rread_plain (w : World) (b : Nat) (L : List Nat) (p R : Nat) (al : Bool) (h : QAt w b (bitsOf L) p) (hL : L.length ≤ 1000000) (hR : R < 2 ^ 64) (hs : al = false ∨ R ≤ 254) :
    Calls Tryz.prog 86 #[.pointer (some ⟨b, 0, none⟩), .bool al, .int .u64 R] w fun e' w' => QdC w b L (rdPlain L p (wid R)) e' w' := by
  have HC := Lib.hid (rwidth_ok R w hR)
  have HG := Lib.hid (rget_any w b L p (wid R) h (by omega))
  unfold rdPlain
  have h' : al = false ∨ (al = true ∧ decide ((R : Int) ≤ 254) = true) := by
    cases al with
    | false => exact .inl rfl
    | true => exact .inr ⟨rfl, decide_eq_true (by rcases hs with h | h; cases h; omega)⟩
  clear h hs
  generalize wid R = k at *
  generalize gerr L p k = ge at *
  generalize gval L p k = gv at *
  generalize gpos L p k = gp at *
  rcases h' with rfl | ⟨rfl, q4⟩
  all_goals
    go_enter Tryz.func86, Tryz.ntmps86
    go_wp2_with fail
    refine HC.out.mono ?_
    rintro e' w1 ⟨rfl, rfl⟩
    go_wp2_with fail
    refine HG.out.mono ?_
    rintro e' w1 ⟨rfl, h1, h2⟩
    have H1 := Lib.hid h1
    have H2 := Lib.hid h2
    clear h1 h2
    go_wp2_with fail
    go_ret2
    exact ⟨rfl, H1.out, H2.out⟩
/-- the reference's Get from any contract of its inner call -/
theorem rrget_from (w : World) (b : Nat) (L : List Nat) (al : Bool) (lo hi : Int) (b2 : -9223372036854775808 ≤ lo) (b3 : hi ≤ 9223372036854775807) (hlh : lo ≤ hi) (o : Rd) (R : Nat) (hR : (hi - lo).toNat = R)
    (hc : Calls Tryz.prog 86 #[.pointer (some ⟨b, 0, none⟩), .bool al, .int .u64 R] w fun e' w' => QdC w b L o e' w')
    (E N : Int) (hE : E = if o.e ≠ 0 then o.e else if R < o.v then 4 else 0) (hN : N = if E = 0 then lo + (o.v : Int) else 0) :
    Calls Tryz.prog 73 #[.pointer (some ⟨b, 0, none⟩), .bool al, .int .i64 lo, .int .i64 hi] w fun e' w' =>
      e' = .returned (.tuple #[.int .i64 N, .int .i64 E]) ∧ QAt w' b (bitsOf L) o.p ∧ Only b w w' := by
  have q1 : decide (hi < lo) = false := decide_eq_false (by omega)
  have o1 := roff_num hi lo b2 hlh b3
  rw [hR] at o1
  have hR' : (R : Int) = hi - lo := by omega
  have HG := Lib.hid hc
  clear hc hR
  obtain ⟨e, v, q⟩ := o
  by_cases he : e = 0
  · subst he
    by_cases hv : R < v
    · have hE1 : E = 4 := by rw [hE, if_neg (by simp), if_pos hv]
      subst hE1
      have hN1 : N = 0 := by rw [hN]; rfl
      subst hN1
      have q2 : decide ((R : Int) < (v : Int)) = true := decide_eq_true (by omega)
      clear hE hN hR' hlh
      go_enter Tryz.func73, Tryz.ntmps73
      go_wp2_with fail
      refine HG.out.mono ?_
      rintro e' w1 ⟨rfl, h1, h2⟩
      have H1 := Lib.hid h1
      have H2 := Lib.hid h2
      clear h1 h2
      go_wp2_with fail
      go_ret2
      exact ⟨rfl, H1.out, H2.out⟩
    · have hE1 : E = 0 := by rw [hE, if_neg (by simp), if_neg hv]
      subst hE1
      have hN1 : N = lo + v := by rw [hN]; rfl
      have q2 : decide ((R : Int) < (v : Int)) = false := decide_eq_false (by omega)
      have hb := rback_num lo v b2 (by omega)
      rw [← hN1] at hb
      have HB := Lib.hid hb
      clear hE hN hN1 hR' hb hlh
      go_enter Tryz.func73, Tryz.ntmps73
      go_wp2_with fail
      refine HG.out.mono ?_
      rintro e' w1 ⟨rfl, h1, h2⟩
      have H1 := Lib.hid h1
      have H2 := Lib.hid h2
      clear h1 h2
      go_wp2_with fail
      go_ret2
      refine ⟨?_, H1.out, H2.out⟩
      rw [← HB.out]
      rfl
  · have hE1 : E = e := by rw [hE, if_pos he]
    subst hE1
    have hN1 : N = 0 := by rw [hN, if_neg he]
    subst hN1
    have q2 : (E != 0) = true := by simpa using he
    have q3 : (E == 0) = false := by simpa using he
    clear hE hN hR' hlh
    go_enter Tryz.func73, Tryz.ntmps73
    go_wp2_with fail
    refine HG.out.mono ?_
    rintro e' w1 ⟨rfl, h1, h2⟩
    have H1 := Lib.hid h1
    have H2 := Lib.hid h2
    clear h1 h2
    go_wp2_with fail
    go_ret2
    exact ⟨rfl, H1.out, H2.out⟩
/-- the reference's Get, aligned, from 1 to a small bound -/
theorem rrget_small (w : World) (b : Nat) (L : List Nat) (p hi : Nat) (h : QAt w b (bitsOf L) p) (hL : L.length ≤ 1000000) (h1 : 1 ≤ hi) (h100 : hi ≤ 100) (E N : Int)
    (hE : E = if gerr L p (wid (hi - 1)) ≠ 0 then gerr L p (wid (hi - 1)) else if hi - 1 < gval L p (wid (hi - 1)) then 4 else 0) (hN : N = if E = 0 then (1 : Int) + ((gval L p (wid (hi - 1)) : Nat) : Int) else 0) :
    Calls Tryz.prog 73 #[.pointer (some ⟨b, 0, none⟩), .bool true, .int .i64 1, .int .i64 hi] w fun e' w' =>
      e' = .returned (.tuple #[.int .i64 N, .int .i64 E]) ∧ QAt w' b (bitsOf L) (gpos L p (wid (hi - 1))) ∧ Only b w w' :=
  rrget_from w b L true 1 hi (by omega) (by omega) (by omega) (rdPlain L p (wid (hi - 1))) (hi - 1) (by omega) (rread_plain w b L p (hi - 1) true h hL (by omega) (.inr (by omega))) E N hE hN
/-- the forms of one and two octets -/
theorem rread_mid (w : World) (b : Nat) (L : List Nat) (p R k : Nat) (hk : k = 8 ∧ R = 255 ∨ k = 16 ∧ 255 < R ∧ R ≤ 65535) (h : QAt w b (bitsOf L) p) (hL : L.length ≤ 1000000) :
    Calls Tryz.prog 86 #[.pointer (some ⟨b, 0, none⟩), .bool true, .int .u64 R] w fun e' w' => QdC w b L (rdMid L p k) e' w' := by
  have q1 : decide ((R : Int) ≤ 254) = false := decide_eq_false (by omega)
  have q2 : decide ((R : Int) ≤ 65535) = true := decide_eq_true (by omega)
  have HR := Lib.hid h
  clear h
  unfold rdMid
  by_cases ha : aerr L p = 0
  · rw [if_pos ha]
    have HA : Go.RowKit.Hid (∀ w, QAt w b (bitsOf L) p → Calls Tryz.prog 56 #[.pointer (some ⟨b, 0, none⟩)] w fun e w' => e = .returned (.int .i64 0) ∧ QAt w' b (bitsOf L) (apos L p) ∧ Only b w w') := fun w h => by
      have := rralign_all w b L p h (by omega)
      rwa [ha] at this
    clear ha
    generalize apos L p = q at *
    have HG := Lib.hid (fun w h => rget_any w b L q k h (by omega))
    unfold rdPlain
    generalize gerr L q k = ge at *
    generalize gval L q k = gv at *
    generalize gpos L q k = gp at *
    have h' : k = 8 ∧ ((R : Int) == 255) = true ∨ k = 16 ∧ ((R : Int) == 255) = false := by
      rcases hk with ⟨h1, h2⟩ | ⟨h1, h2, _⟩
      · exact .inl ⟨h1, by simp; omega⟩
      · exact .inr ⟨h1, by simp; omega⟩
    clear hk
    rcases h' with ⟨rfl, q3⟩ | ⟨rfl, q3⟩
    all_goals
      go_enter Tryz.func86, Tryz.ntmps86
      go_wp2_with fail
      refine (HA.out w HR.out).mono ?_
      rintro e' w2 ⟨rfl, h1, h2⟩
      have H3 := Lib.hid h1
      have H4 := Lib.hid h2
      clear h1 h2 HA HR
      go_wp2_with fail
      refine (HG.out w2 H3.out).mono ?_
      rintro e' w3 ⟨rfl, h1, h2⟩
      have H5 := Lib.hid h1
      have H6 := Lib.hid (H4.out.trans h2)
      clear h1 h2 H3 H4
      go_wp2_with fail
      go_ret2
      exact ⟨rfl, H5.out, H6.out⟩
  · rw [if_neg ha]
    obtain ⟨n1, n2⟩ := rne_facts ha
    have HA := Lib.hid (fun w h => rralign_all w b L p h (by omega))
    clear ha hk
    generalize apos L p = q at *
    generalize aerr L p = ae at *
    go_enter Tryz.func86, Tryz.ntmps86
    go_wp2_with fail
    refine (HA.out w HR.out).mono ?_
    rintro e' w2 ⟨rfl, h1, h2⟩
    have H3 := Lib.hid h1
    have H4 := Lib.hid h2
    clear h1 h2 HA HR
    go_wp2_with fail
    go_ret2
    exact ⟨rfl, H3.out, H4.out⟩
theorem rread_big (w : World) (b : Nat) (L : List Nat) (p R : Nat) (h : QAt w b (bitsOf L) p) (hL : L.length ≤ 1000000) (hR : R < 2 ^ 64) (hbig : 65535 < R) :
    Calls Tryz.prog 86 #[.pointer (some ⟨b, 0, none⟩), .bool true, .int .u64 R] w fun e' w' => QdC w b L (rdBig L p (cnt R - 1)) e' w' := by
  have hc1 := cnt_pos R
  have hc8 := cnt_le R hR
  have HC := Lib.hid (rcount_ok R w hR)
  have q1 : decide ((R : Int) ≤ 254) = false := decide_eq_false (by omega)
  have q2 : decide ((R : Int) ≤ 65535) = false := decide_eq_false (by omega)
  clear hbig
  unfold rdBig
  generalize cnt R = c at *
  by_cases he : gerr L p (wid (c - 1)) = 0
  · rw [if_pos he]
    by_cases hv : c - 1 < gval L p (wid (c - 1))
    · rw [if_pos hv]
      have HG := Lib.hid (rrget_small w b L p c h hL hc1 (by omega) 4 0 (by rw [he, if_neg (by simp), if_pos hv]) rfl)
      clear h he hv hc8
      generalize gpos L p (wid (c - 1)) = q at *
      go_enter Tryz.func86, Tryz.ntmps86
      go_wp2_with fail
      refine HC.out.mono ?_
      rintro e' w1 ⟨rfl, rfl⟩
      go_wp2_with fail
      refine HG.out.mono ?_
      rintro e' w1 ⟨rfl, h1, h2⟩
      have H1 := Lib.hid h1
      have H2 := Lib.hid h2
      clear h1 h2
      go_wp2_with fail
      go_ret2
      exact ⟨rfl, H1.out, H2.out⟩
    · rw [if_neg hv]
      have HG := Lib.hid (rrget_small w b L p c h hL hc1 (by omega) 0 (1 + gval L p (wid (c - 1)) : Nat) (by rw [he, if_neg (by simp), if_neg hv]) (by rw [if_pos rfl]; omega))
      have hn : 1 + gval L p (wid (c - 1)) ≤ 8 := by omega
      clear h he hv hc8
      generalize gpos L p (wid (c - 1)) = q at *
      generalize 1 + gval L p (wid (c - 1)) = n at *
      unfold rdAl
      by_cases ha : aerr L q = 0
      · rw [if_pos ha]
        have HA : Go.RowKit.Hid (∀ w, QAt w b (bitsOf L) q → Calls Tryz.prog 56 #[.pointer (some ⟨b, 0, none⟩)] w fun e w' => e = .returned (.int .i64 0) ∧ QAt w' b (bitsOf L) (apos L q) ∧ Only b w w') := fun w h => by
          have := rralign_all w b L q h (by omega)
          rwa [ha] at this
        clear ha
        generalize apos L q = q2 at *
        unfold rdOcts
        have hol := rolst_len L q2 n
        by_cases ho : oerr L q2 n = 0
        · rw [if_pos ho]
          have HO : Go.RowKit.Hid (∀ w, QAt w b (bitsOf L) q2 → Calls Tryz.prog 93 #[.pointer (some ⟨b, 0, none⟩), .int .i64 n] w fun e w' => ∃ v, e = .returned (.tuple #[v, .int .i64 0]) ∧ SlAt w' v (olst L q2 n) ∧ QAt w' b (bitsOf L) (opos L q2 n) ∧ Only b w w') := fun w h => by
            have := rroct_any w b L q2 n h (by omega)
            rwa [ho] at this
          clear ho
          generalize opos L q2 n = q3 at *
          generalize olst L q2 n = l at *
          have HF := Lib.hid (fun w s h => rfromU_ok w s l h (by omega))
          generalize uerr l = ue at *
          generalize uval l = uv at *
          clear hol hn
          go_enter Tryz.func86, Tryz.ntmps86
          go_wp2_with fail
          refine HC.out.mono ?_
          rintro e' w1 ⟨rfl, rfl⟩
          go_wp2_with fail
          refine HG.out.mono ?_
          rintro e' w1 ⟨rfl, h1, h2⟩
          have H1 := Lib.hid h1
          have H2 := Lib.hid h2
          clear h1 h2 HG HC
          go_wp2_with fail
          refine (HA.out w1 H1.out).mono ?_
          rintro e' w2 ⟨rfl, h1, h2⟩
          have H3 := Lib.hid h1
          have H4 := Lib.hid (H2.out.trans h2)
          clear h1 h2 H1 H2 HA
          go_wp2_with fail
          refine (HO.out w2 H3.out).mono ?_
          rintro e' w3 ⟨sv, rfl, hs, h1, h2⟩
          have H5 := Lib.hid h1
          have H6 := Lib.hid (H4.out.trans h2)
          have HS := Lib.hid hs
          clear h1 h2 H3 H4 hs HO
          go_wp2_with fail
          refine (HF.out w3 sv HS.out).mono ?_
          rintro e' w4 ⟨rfl, rfl⟩
          go_wp2_with fail
          go_ret2
          exact ⟨rfl, H5.out, H6.out⟩
        · rw [if_neg ho]
          obtain ⟨n1, n2⟩ := rne_facts ho
          have HO := Lib.hid (fun w h => rroct_any w b L q2 n h (by omega))
          clear ho
          generalize opos L q2 n = q3 at *
          generalize olst L q2 n = l at *
          generalize oerr L q2 n = oe at *
          clear hol hn
          go_enter Tryz.func86, Tryz.ntmps86
          go_wp2_with fail
          refine HC.out.mono ?_
          rintro e' w1 ⟨rfl, rfl⟩
          go_wp2_with fail
          refine HG.out.mono ?_
          rintro e' w1 ⟨rfl, h1, h2⟩
          have H1 := Lib.hid h1
          have H2 := Lib.hid h2
          clear h1 h2 HG HC
          go_wp2_with fail
          refine (HA.out w1 H1.out).mono ?_
          rintro e' w2 ⟨rfl, h1, h2⟩
          have H3 := Lib.hid h1
          have H4 := Lib.hid (H2.out.trans h2)
          clear h1 h2 H1 H2 HA
          go_wp2_with fail
          refine (HO.out w2 H3.out).mono ?_
          rintro e' w3 ⟨sv, rfl, hs, h1, h2⟩
          have H5 := Lib.hid h1
          have H6 := Lib.hid (H4.out.trans h2)
          clear h1 h2 H3 H4 hs HO
          go_wp2_with fail
          go_ret2
          exact ⟨rfl, H5.out, H6.out⟩
      · rw [if_neg ha]
        obtain ⟨n1, n2⟩ := rne_facts ha
        have HA := Lib.hid (fun w h => rralign_all w b L q h (by omega))
        clear ha
        generalize apos L q = q2 at *
        generalize aerr L q = ae at *
        clear hn
        go_enter Tryz.func86, Tryz.ntmps86
        go_wp2_with fail
        refine HC.out.mono ?_
        rintro e' w1 ⟨rfl, rfl⟩
        go_wp2_with fail
        refine HG.out.mono ?_
        rintro e' w1 ⟨rfl, h1, h2⟩
        have H1 := Lib.hid h1
        have H2 := Lib.hid h2
        clear h1 h2 HG HC
        go_wp2_with fail
        refine (HA.out w1 H1.out).mono ?_
        rintro e' w2 ⟨rfl, h1, h2⟩
        have H3 := Lib.hid h1
        have H4 := Lib.hid (H2.out.trans h2)
        clear h1 h2 H1 H2 HA
        go_wp2_with fail
        go_ret2
        exact ⟨rfl, H3.out, H4.out⟩
  · rw [if_neg he]
    have HG := Lib.hid (rrget_small w b L p c h hL hc1 (by omega) (gerr L p (wid (c - 1))) 0 (by rw [if_pos he]) (by rw [if_neg he]))
    obtain ⟨n1, n2⟩ := rne_facts he
    clear h he hc8
    generalize gpos L p (wid (c - 1)) = q at *
    generalize gerr L p (wid (c - 1)) = ge at *
    go_enter Tryz.func86, Tryz.ntmps86
    go_wp2_with fail
    refine HC.out.mono ?_
    rintro e' w1 ⟨rfl, rfl⟩
    go_wp2_with fail
    refine HG.out.mono ?_
    rintro e' w1 ⟨rfl, h1, h2⟩
    have H1 := Lib.hid h1
    have H2 := Lib.hid h2
    clear h1 h2
    go_wp2_with fail
    go_ret2
    exact ⟨rfl, H1.out, H2.out⟩
theorem rread_any (w : World) (b : Nat) (L : List Nat) (p R : Nat) (al : Bool) (h : QAt w b (bitsOf L) p) (hL : L.length ≤ 1000000) (hR : R < 2 ^ 64) :
    Calls Tryz.prog 86 #[.pointer (some ⟨b, 0, none⟩), .bool al, .int .u64 R] w fun e' w' => QdC w b L (rdOff al L p R) e' w' := by
  by_cases h1 : al = false ∨ R ≤ 254
  · rw [rdOff_small h1]
    exact rread_plain w b L p R al h hL hR h1
  have hal : al = true := by cases al <;> simp_all
  subst hal
  have h2 : 254 < R := by simp at h1; omega
  by_cases h255 : R = 255
  · rw [show rdOff true L p R = rdMid L p 8 by rw [h255]; exact rdOff_255 L p]
    exact rread_mid w b L p R 8 (.inl ⟨rfl, h255⟩) h hL
  by_cases h16 : R ≤ 65535
  · rw [rdOff_16 (by omega) h16]
    exact rread_mid w b L p R 16 (.inr ⟨rfl, by omega, h16⟩) h hL
  · rw [rdOff_big (by omega)]
    exact rread_big w b L p R h hL hR (by omega)
theorem rrget_all (w : World) (b : Nat) (L : List Nat) (p : Nat) (al : Bool) (lo hi : Int) (h : QAt w b (bitsOf L) p) (hL : L.length ≤ 1000000) (b2 : -9223372036854775808 ≤ lo ∧ lo ≤ 9223372036854775807) (b3 : -9223372036854775808 ≤ hi ∧ hi ≤ 9223372036854775807) :
    Calls Tryz.prog 73 #[.pointer (some ⟨b, 0, none⟩), .bool al, .int .i64 lo, .int .i64 hi] w fun e' w' =>
      e' = .returned (.tuple #[.int .i64 (gN al L p lo hi), .int .i64 (gE al L p lo hi)]) ∧ QAt w' b (bitsOf L) (gP al L p lo hi) ∧ Only b w w' := by
  by_cases hlh : hi < lo
  · obtain ⟨g1, g2, g3⟩ := gE_arg (al := al) (L := L) (p := p) hlh
    rw [g1, g2, g3]
    have q1 : decide (hi < lo) = true := decide_eq_true hlh
    have HR := Lib.hid h
    clear h g1 g2 g3
    go_enter Tryz.func73, Tryz.ntmps73
    go_wp2_with fail
    go_ret2
    exact ⟨rfl, HR.out, Only.refl _ _⟩
  · have hP : gP al L p lo hi = (rdOff al L p (hi - lo).toNat).p := if_neg hlh
    rw [hP]
    refine rrget_from w b L al lo hi b2.1 b3.2 (by omega) (rdOff al L p (hi - lo).toNat) _ rfl (rread_any w b L p (hi - lo).toNat al h hL (by omega)) _ _ ?_ rfl
    unfold gE
    rw [if_neg hlh]
end Go.Proofs.YtbpfggkpfaobhaaGreat
