/-
  The document's answers for package length: reading.
-/
import Derived.Test.YtbpfggkpfaobhaaGreatLRef
import Derived.Test.YtbpfggkpfaobhaaGreatWRGet
import Derived.Test.YtbpfggkpfaobhaaGreatOref2
namespace Go.Proofs.YtbpfggkpfaobhaaGreat
open Go.RowKit
set_option linter.unusedVariables false
set_option linter.unusedSimpArgs false
set_option maxRecDepth 100000

theorem ne_facts' {e : Int} (he : e ≠ 0) : (e != 0) = true ∧ (e == 0) = false := ⟨by simpa using he, by simpa using he⟩
theorem rgval8 (L : List Nat) (p : Nat) : gval L p 8 < 256 := gval_lt L p 8
def QlC (w : World) (b : Nat) (L : List Nat) (o : Rl) (e' : Ending) (w' : World) : Prop := e' = .returned (.tuple #[.int .i64 o.v, .bool o.m, .int .i64 o.e]) ∧ QAt w' b (bitsOf L) o.p ∧ Only b w w'
def QiC (w : World) (b : Nat) (L : List Nat) (o : Rd) (e' : Ending) (w' : World) : Prop := e' = .returned (.tuple #[.int .i64 o.v, .int .i64 o.e]) ∧ QAt w' b (bitsOf L) o.p ∧ Only b w w'
set_option maxHeartbeats 4000000 in
theorem ropen_pl (w : World) (b : Nat) (L : List Nat) (p p0 : Nat) (al : Bool) (h0 : QAt w b (bitsOf L) p0) (hA : al = true → aerr L p0 = 0 ∧ apos L p0 = p) (hB : al = false → p0 = p) (hL : L.length ≤ 1000000) :
    Calls Tryz.prog 74 #[.pointer (some ⟨b, 0, none⟩), .bool al] w fun e' w' => QlC w b L (rlPl L p) e' w' := by
  have h8 := rgval8 L p
  have HG := Lib.hid (fun w h => rget_any w b L p 8 h (by omega))
  have HS := Lib.hid (fun w h => rget_any w b L (gpos L p 8) 8 h (by omega))
  have hs8 := rgval8 L (gpos L p 8)
  have HA := Lib.hid (fun w h => rralign_all w b L p0 h (by omega))
  have hr' : al = true ∧ (∀ w, QAt w b (bitsOf L) p0 → Calls Tryz.prog 56 #[.pointer (some ⟨b, 0, none⟩)] w fun e w' => e = .returned (.int .i64 0) ∧ QAt w' b (bitsOf L) p ∧ Only b w w') ∨ al = false ∧ QAt w b (bitsOf L) p := by
    cases al with
    | true =>
      refine .inl ⟨rfl, fun w h => ?_⟩
      have := HA.out w h
      rw [(hA rfl).1, (hA rfl).2] at this
      exact this
    | false => exact .inr ⟨rfl, hB rfl ▸ h0⟩
  have HR0 := Lib.hid h0
  clear HA hA hB h0
  unfold rlPl
  by_cases he : gerr L p 8 = 0
  · rw [he] at HG
    rw [if_pos he]
    clear he
    generalize gval L p 8 = v at *
    generalize gpos L p 8 = q at *
    unfold rlOct
    by_cases c1 : v < 128
    · rw [if_pos c1]
      have m1 : decide ((v : Int) < 128) = true := decide_eq_true (by omega)
      clear HS hs8
      rcases hr' with ⟨rfl, hal⟩ | ⟨rfl, hr⟩
      · have HA := Lib.hid hal
        clear hal
        go_enter Tryz.func74, Tryz.ntmps74
        go_wp2_with fail
        refine (HA.out w HR0.out).mono ?_
        rintro e' w1 ⟨rfl, h1, h2⟩
        have H1 := Lib.hid h1
        have H2 := Lib.hid h2
        clear h1 h2 
        go_wp2_with fail
        refine (HG.out w1 H1.out).mono ?_
        rintro e' w2 ⟨rfl, h1, h2⟩
        have H3 := Lib.hid h1
        have H4 := Lib.hid (H2.out.trans h2)
        clear h1 h2 
        go_wp2_with fail
        go_ret3
        exact ⟨rfl, H3.out, H4.out⟩
      · have HR := Lib.hid hr
        clear hr
        go_enter Tryz.func74, Tryz.ntmps74
        go_wp2_with fail
        refine (HG.out w HR.out).mono ?_
        rintro e' w2 ⟨rfl, h1, h2⟩
        have H3 := Lib.hid h1
        have H4 := Lib.hid h2
        clear h1 h2 
        go_wp2_with fail
        go_ret3
        exact ⟨rfl, H3.out, H4.out⟩
    rw [if_neg c1]
    have m1 : decide ((v : Int) < 128) = false := decide_eq_false (by omega)
    by_cases c2 : v < 192
    · rw [if_pos c2]
      have m2 : decide ((v : Int) < 192) = true := decide_eq_true (by omega)
      have c1 : 128 ≤ v := by omega
      unfold rlSec
      by_cases hg : gerr L q 8 = 0
      · rw [hg] at HS
        rw [if_pos hg]
        clear hg
        generalize gval L q 8 = x at *
        generalize gpos L q 8 = q2 at *
        by_cases hz : 256 * (v - 128) + x < 128
        · rw [if_pos hz]
          have q1 : decide (((v : Int) - 128) * 256 + (x : Int) < 128) = true := decide_eq_true (by omega)
          rcases hr' with ⟨rfl, hal⟩ | ⟨rfl, hr⟩
          · have HA := Lib.hid hal
            clear hal
            go_enter Tryz.func74, Tryz.ntmps74
            go_wp2_with fail
            refine (HA.out w HR0.out).mono ?_
            rintro e' w1 ⟨rfl, h1, h2⟩
            have H1 := Lib.hid h1
            have H2 := Lib.hid h2
            clear h1 h2 
            go_wp2_with fail
            refine (HG.out w1 H1.out).mono ?_
            rintro e' w2 ⟨rfl, h1, h2⟩
            have H3 := Lib.hid h1
            have H4 := Lib.hid (H2.out.trans h2)
            clear h1 h2 
            go_wp2_with fail
            refine (HS.out w2 H3.out).mono ?_
            rintro e' w3 ⟨rfl, h1, h2⟩
            have H5 := Lib.hid h1
            have H6 := Lib.hid (H4.out.trans h2)
            clear h1 h2 
            go_wp2_with fail
            go_ret3
            exact ⟨rfl, H5.out, H6.out⟩
          · have HR := Lib.hid hr
            clear hr
            go_enter Tryz.func74, Tryz.ntmps74
            go_wp2_with fail
            refine (HG.out w HR.out).mono ?_
            rintro e' w2 ⟨rfl, h1, h2⟩
            have H3 := Lib.hid h1
            have H4 := Lib.hid h2
            clear h1 h2 
            go_wp2_with fail
            refine (HS.out w2 H3.out).mono ?_
            rintro e' w3 ⟨rfl, h1, h2⟩
            have H5 := Lib.hid h1
            have H6 := Lib.hid (H4.out.trans h2)
            clear h1 h2 
            go_wp2_with fail
            go_ret3
            exact ⟨rfl, H5.out, H6.out⟩
        · rw [if_neg hz]
          have q1 : decide (((v : Int) - 128) * 256 + (x : Int) < 128) = false := decide_eq_false (by omega)
          rcases hr' with ⟨rfl, hal⟩ | ⟨rfl, hr⟩
          · have HA := Lib.hid hal
            clear hal
            go_enter Tryz.func74, Tryz.ntmps74
            go_wp2_with fail
            refine (HA.out w HR0.out).mono ?_
            rintro e' w1 ⟨rfl, h1, h2⟩
            have H1 := Lib.hid h1
            have H2 := Lib.hid h2
            clear h1 h2 
            go_wp2_with fail
            refine (HG.out w1 H1.out).mono ?_
            rintro e' w2 ⟨rfl, h1, h2⟩
            have H3 := Lib.hid h1
            have H4 := Lib.hid (H2.out.trans h2)
            clear h1 h2 
            go_wp2_with fail
            refine (HS.out w2 H3.out).mono ?_
            rintro e' w3 ⟨rfl, h1, h2⟩
            have H5 := Lib.hid h1
            have H6 := Lib.hid (H4.out.trans h2)
            clear h1 h2 
            go_wp2_with fail
            go_ret3
            refine ⟨?_, H5.out, H6.out⟩
            show _ = Ending.returned (.tuple #[.int .i64 ((256 * (v - 128) + x : Nat) : Int), .bool false, .int .i64 0])
            rw [show ((256 * (v - 128) + x : Nat) : Int) = ((v : Int) - 128) * 256 + (x : Int) by omega]
            rfl
          · have HR := Lib.hid hr
            clear hr
            go_enter Tryz.func74, Tryz.ntmps74
            go_wp2_with fail
            refine (HG.out w HR.out).mono ?_
            rintro e' w2 ⟨rfl, h1, h2⟩
            have H3 := Lib.hid h1
            have H4 := Lib.hid h2
            clear h1 h2 
            go_wp2_with fail
            refine (HS.out w2 H3.out).mono ?_
            rintro e' w3 ⟨rfl, h1, h2⟩
            have H5 := Lib.hid h1
            have H6 := Lib.hid (H4.out.trans h2)
            clear h1 h2 
            go_wp2_with fail
            go_ret3
            refine ⟨?_, H5.out, H6.out⟩
            show _ = Ending.returned (.tuple #[.int .i64 ((256 * (v - 128) + x : Nat) : Int), .bool false, .int .i64 0])
            rw [show ((256 * (v - 128) + x : Nat) : Int) = ((v : Int) - 128) * 256 + (x : Int) by omega]
            rfl
      · rw [if_neg hg]
        obtain ⟨n1, n2⟩ := ne_facts' hg
        clear hg
        generalize gval L q 8 = x at *
        generalize gpos L q 8 = q2 at *
        generalize gerr L q 8 = ge at *
        rcases hr' with ⟨rfl, hal⟩ | ⟨rfl, hr⟩
        · have HA := Lib.hid hal
          clear hal
          go_enter Tryz.func74, Tryz.ntmps74
          go_wp2_with fail
          refine (HA.out w HR0.out).mono ?_
          rintro e' w1 ⟨rfl, h1, h2⟩
          have H1 := Lib.hid h1
          have H2 := Lib.hid h2
          clear h1 h2 
          go_wp2_with fail
          refine (HG.out w1 H1.out).mono ?_
          rintro e' w2 ⟨rfl, h1, h2⟩
          have H3 := Lib.hid h1
          have H4 := Lib.hid (H2.out.trans h2)
          clear h1 h2 
          go_wp2_with fail
          refine (HS.out w2 H3.out).mono ?_
          rintro e' w3 ⟨rfl, h1, h2⟩
          have H5 := Lib.hid h1
          have H6 := Lib.hid (H4.out.trans h2)
          clear h1 h2 
          go_wp2_with fail
          go_ret3
          exact ⟨rfl, H5.out, H6.out⟩
        · have HR := Lib.hid hr
          clear hr
          go_enter Tryz.func74, Tryz.ntmps74
          go_wp2_with fail
          refine (HG.out w HR.out).mono ?_
          rintro e' w2 ⟨rfl, h1, h2⟩
          have H3 := Lib.hid h1
          have H4 := Lib.hid h2
          clear h1 h2 
          go_wp2_with fail
          refine (HS.out w2 H3.out).mono ?_
          rintro e' w3 ⟨rfl, h1, h2⟩
          have H5 := Lib.hid h1
          have H6 := Lib.hid (H4.out.trans h2)
          clear h1 h2 
          go_wp2_with fail
          go_ret3
          exact ⟨rfl, H5.out, H6.out⟩
    rw [if_neg c2]
    have m2 : decide ((v : Int) < 192) = false := decide_eq_false (by omega)
    by_cases c3 : v < 193
    · rw [if_pos (.inl c3)]
      have m3 : decide ((v : Int) < 193) = true := decide_eq_true (by omega)
      rcases hr' with ⟨rfl, hal⟩ | ⟨rfl, hr⟩
      · have HA := Lib.hid hal
        clear hal
        go_enter Tryz.func74, Tryz.ntmps74
        go_wp2_with fail
        refine (HA.out w HR0.out).mono ?_
        rintro e' w1 ⟨rfl, h1, h2⟩
        have H1 := Lib.hid h1
        have H2 := Lib.hid h2
        clear h1 h2 
        go_wp2_with fail
        refine (HG.out w1 H1.out).mono ?_
        rintro e' w2 ⟨rfl, h1, h2⟩
        have H3 := Lib.hid h1
        have H4 := Lib.hid (H2.out.trans h2)
        clear h1 h2 
        go_wp2_with fail
        go_ret3
        exact ⟨rfl, H3.out, H4.out⟩
      · have HR := Lib.hid hr
        clear hr
        go_enter Tryz.func74, Tryz.ntmps74
        go_wp2_with fail
        refine (HG.out w HR.out).mono ?_
        rintro e' w2 ⟨rfl, h1, h2⟩
        have H3 := Lib.hid h1
        have H4 := Lib.hid h2
        clear h1 h2 
        go_wp2_with fail
        go_ret3
        exact ⟨rfl, H3.out, H4.out⟩
    have m3 : decide ((v : Int) < 193) = false := decide_eq_false (by omega)
    by_cases c4 : 196 < v
    · rw [if_pos (.inr c4)]
      have m4 : decide ((196 : Int) < (v : Int)) = true := decide_eq_true (by omega)
      rcases hr' with ⟨rfl, hal⟩ | ⟨rfl, hr⟩
      · have HA := Lib.hid hal
        clear hal
        go_enter Tryz.func74, Tryz.ntmps74
        go_wp2_with fail
        refine (HA.out w HR0.out).mono ?_
        rintro e' w1 ⟨rfl, h1, h2⟩
        have H1 := Lib.hid h1
        have H2 := Lib.hid h2
        clear h1 h2 
        go_wp2_with fail
        refine (HG.out w1 H1.out).mono ?_
        rintro e' w2 ⟨rfl, h1, h2⟩
        have H3 := Lib.hid h1
        have H4 := Lib.hid (H2.out.trans h2)
        clear h1 h2 
        go_wp2_with fail
        go_ret3
        exact ⟨rfl, H3.out, H4.out⟩
      · have HR := Lib.hid hr
        clear hr
        go_enter Tryz.func74, Tryz.ntmps74
        go_wp2_with fail
        refine (HG.out w HR.out).mono ?_
        rintro e' w2 ⟨rfl, h1, h2⟩
        have H3 := Lib.hid h1
        have H4 := Lib.hid h2
        clear h1 h2 
        go_wp2_with fail
        go_ret3
        exact ⟨rfl, H3.out, H4.out⟩
    rw [if_neg (show ¬ (v < 193 ∨ 196 < v) by omega)]
    have m4 : decide ((196 : Int) < (v : Int)) = false := decide_eq_false (by omega)
    have c5 : 193 ≤ v ∧ v ≤ 196 := by omega
    clear c1 c2 c3 c4
    obtain ⟨c5, c6⟩ := c5
    rcases hr' with ⟨rfl, hal⟩ | ⟨rfl, hr⟩
    · have HA := Lib.hid hal
      clear hal
      go_enter Tryz.func74, Tryz.ntmps74
      go_wp2_with fail
      refine (HA.out w HR0.out).mono ?_
      rintro e' w1 ⟨rfl, h1, h2⟩
      have H1 := Lib.hid h1
      have H2 := Lib.hid h2
      clear h1 h2 
      go_wp2_with fail
      refine (HG.out w1 H1.out).mono ?_
      rintro e' w2 ⟨rfl, h1, h2⟩
      have H3 := Lib.hid h1
      have H4 := Lib.hid (H2.out.trans h2)
      clear h1 h2 
      go_wp2_with fail
      go_ret3
      refine ⟨?_, H3.out, H4.out⟩
      show _ = Ending.returned (.tuple #[.int .i64 ((16384 * (v - 192) : Nat) : Int), .bool true, .int .i64 0])
      rw [show ((16384 * (v - 192) : Nat) : Int) = 16384 * ((v : Int) - 192) by omega]
      rfl
    · have HR := Lib.hid hr
      clear hr
      go_enter Tryz.func74, Tryz.ntmps74
      go_wp2_with fail
      refine (HG.out w HR.out).mono ?_
      rintro e' w2 ⟨rfl, h1, h2⟩
      have H3 := Lib.hid h1
      have H4 := Lib.hid h2
      clear h1 h2 
      go_wp2_with fail
      go_ret3
      refine ⟨?_, H3.out, H4.out⟩
      show _ = Ending.returned (.tuple #[.int .i64 ((16384 * (v - 192) : Nat) : Int), .bool true, .int .i64 0])
      rw [show ((16384 * (v - 192) : Nat) : Int) = 16384 * ((v : Int) - 192) by omega]
      rfl
  · rw [if_neg he]
    obtain ⟨n1, n2⟩ := ne_facts' he
    clear he h8 HS hs8
    generalize gval L p 8 = v at *
    generalize gerr L p 8 = ge at *
    generalize gpos L p 8 = q at *
    rcases hr' with ⟨rfl, hal⟩ | ⟨rfl, hr⟩
    · have HA := Lib.hid hal
      clear hal
      go_enter Tryz.func74, Tryz.ntmps74
      go_wp2_with fail
      refine (HA.out w HR0.out).mono ?_
      rintro e' w1 ⟨rfl, h1, h2⟩
      have H1 := Lib.hid h1
      have H2 := Lib.hid h2
      clear h1 h2 
      go_wp2_with fail
      refine (HG.out w1 H1.out).mono ?_
      rintro e' w2 ⟨rfl, h1, h2⟩
      have H3 := Lib.hid h1
      have H4 := Lib.hid (H2.out.trans h2)
      clear h1 h2 
      go_wp2_with fail
      go_ret3
      exact ⟨rfl, H3.out, H4.out⟩
    · have HR := Lib.hid hr
      clear hr
      go_enter Tryz.func74, Tryz.ntmps74
      go_wp2_with fail
      refine (HG.out w HR.out).mono ?_
      rintro e' w2 ⟨rfl, h1, h2⟩
      have H3 := Lib.hid h1
      have H4 := Lib.hid h2
      clear h1 h2 
      go_wp2_with fail
      go_ret3
      exact ⟨rfl, H3.out, H4.out⟩
theorem ropen_any (w : World) (b : Nat) (L : List Nat) (p : Nat) (al : Bool) (h : QAt w b (bitsOf L) p) (hL : L.length ≤ 1000000) :
    Calls Tryz.prog 74 #[.pointer (some ⟨b, 0, none⟩), .bool al] w fun e' w' => QlC w b L (rlF al L p) e' w' := by
  unfold rlF
  cases al with
  | false =>
    rw [if_neg (by decide)]
    exact ropen_pl w b L p p false h (fun e => by cases e) (fun _ => rfl) hL
  | true =>
    rw [if_pos rfl]
    by_cases ha : aerr L p = 0
    · rw [if_pos ha]
      exact ropen_pl w b L (apos L p) p true h (fun _ => ⟨ha, rfl⟩) (fun e => by cases e) hL
    · rw [if_neg ha]
      obtain ⟨n1, n2⟩ := ne_facts' ha
      have HA := Lib.hid (rralign_all w b L p h (by omega))
      clear ha h
      generalize apos L p = q at *
      generalize aerr L p = ae at *
      go_enter Tryz.func74, Tryz.ntmps74
      go_wp2_with fail
      refine HA.out.mono ?_
      rintro e' w1 ⟨rfl, h1, h2⟩
      have H1 := Lib.hid h1
      have H2 := Lib.hid h2
      clear h1 h2 
      go_wp2_with fail
      go_ret3
      exact ⟨rfl, H1.out, H2.out⟩
set_option maxHeartbeats 2000000 in
theorem rlget_from (w : World) (b : Nat) (L : List Nat) (p : Nat) (al : Bool) (lo hi : Int) (o : Rl) (hb : ¬ lBad lo hi) (hh : ¬ (0 ≤ hi ∧ hi ≤ 65535)) (hF : Calls Tryz.prog 74 #[.pointer (some ⟨b, 0, none⟩), .bool al] w fun e' w' => QlC w b L o e' w') :
    Calls Tryz.prog 58 #[.pointer (some ⟨b, 0, none⟩), .bool al, .int .i64 lo, .int .i64 hi] w fun e' w' =>
      e' = .returned (.tuple #[.int .i64 (if lgOut o lo hi = 0 then (o.v : Int) else 0), .bool (if lgOut o lo hi = 0 then o.m else false), .int .i64 (lgOut o lo hi)]) ∧ QAt w' b (bitsOf L) o.p ∧ Only b w w' := by
  have HV := Lib.hid (may_ok lo hi w true (by simp [hb]))
  have HN := Lib.hid (close_ok hi w false (lNar_no hh).symm)
  have HF := Lib.hid hF
  clear hb hh hF
  obtain ⟨e, v, m, q⟩ := o
  by_cases he : e = 0
  · subst he
    by_cases h1 : (v : Int) < lo
    · have q1 : decide ((v : Int) < lo) = true := decide_eq_true h1
      cases m with
      | false =>
        have hz : lgOut ⟨0, v, false, q⟩ lo hi = 4 := by unfold lgOut; rw [if_neg (by simp), if_pos (.inl ⟨h1, rfl⟩)]
        rw [hz, if_neg (by decide), if_neg (by decide)]
        clear hz h1
        go_enter Tryz.func58, Tryz.ntmps58
        go_wp2_with fail
        refine HV.out.mono ?_
        rintro e' w1 ⟨rfl, rfl⟩
        go_wp2_with fail
        refine HN.out.mono ?_
        rintro e' w1 ⟨rfl, rfl⟩
        go_wp2_with fail
        refine HF.out.mono ?_
        rintro e' w1 ⟨rfl, h1, h2⟩
        have H1 := Lib.hid h1
        have H2 := Lib.hid h2
        clear h1 h2 
        go_wp2_with fail
        go_ret3
        exact ⟨rfl, H1.out, H2.out⟩
      | true =>
        by_cases h2 : 0 ≤ hi
        · have q2 : decide ((0 : Int) ≤ hi) = true := decide_eq_true h2
          by_cases h3 : hi < (v : Int)
          · have q3 : decide (hi < (v : Int)) = true := decide_eq_true h3
            have hz : lgOut ⟨0, v, true, q⟩ lo hi = 4 := by unfold lgOut; rw [if_neg (by simp), if_pos (.inr ⟨h2, h3⟩)]
            rw [hz, if_neg (by decide), if_neg (by decide)]
            clear hz h1 h2 h3
            go_enter Tryz.func58, Tryz.ntmps58
            go_wp2_with fail
            refine HV.out.mono ?_
            rintro e' w1 ⟨rfl, rfl⟩
            go_wp2_with fail
            refine HN.out.mono ?_
            rintro e' w1 ⟨rfl, rfl⟩
            go_wp2_with fail
            refine HF.out.mono ?_
            rintro e' w1 ⟨rfl, h1, h2⟩
            have H1 := Lib.hid h1
            have H2 := Lib.hid h2
            clear h1 h2 
            go_wp2_with fail
            go_ret3
            exact ⟨rfl, H1.out, H2.out⟩
          · have q3 : decide (hi < (v : Int)) = false := decide_eq_false h3
            have hz : lgOut ⟨0, v, true, q⟩ lo hi = 0 := by unfold lgOut; rw [if_neg (by simp), if_neg (by simp only [not_or]; exact ⟨by simp; try omega, by simp; omega⟩)]
            rw [hz, if_pos rfl, if_pos rfl]
            clear hz h1 h2 h3
            go_enter Tryz.func58, Tryz.ntmps58
            go_wp2_with fail
            refine HV.out.mono ?_
            rintro e' w1 ⟨rfl, rfl⟩
            go_wp2_with fail
            refine HN.out.mono ?_
            rintro e' w1 ⟨rfl, rfl⟩
            go_wp2_with fail
            refine HF.out.mono ?_
            rintro e' w1 ⟨rfl, h1, h2⟩
            have H1 := Lib.hid h1
            have H2 := Lib.hid h2
            clear h1 h2 
            go_wp2_with fail
            go_ret3
            exact ⟨rfl, H1.out, H2.out⟩
        · have q2 : decide ((0 : Int) ≤ hi) = false := decide_eq_false h2
          have hz : lgOut ⟨0, v, true, q⟩ lo hi = 0 := by unfold lgOut; rw [if_neg (by simp), if_neg (by simp only [not_or]; exact ⟨by simp; try omega, by simp; omega⟩)]
          rw [hz, if_pos rfl, if_pos rfl]
          clear hz h1 h2
          go_enter Tryz.func58, Tryz.ntmps58
          go_wp2_with fail
          refine HV.out.mono ?_
          rintro e' w1 ⟨rfl, rfl⟩
          go_wp2_with fail
          refine HN.out.mono ?_
          rintro e' w1 ⟨rfl, rfl⟩
          go_wp2_with fail
          refine HF.out.mono ?_
          rintro e' w1 ⟨rfl, h1, h2⟩
          have H1 := Lib.hid h1
          have H2 := Lib.hid h2
          clear h1 h2 
          go_wp2_with fail
          go_ret3
          exact ⟨rfl, H1.out, H2.out⟩
    · have q1 : decide ((v : Int) < lo) = false := decide_eq_false h1
      by_cases h2 : 0 ≤ hi
      · have q2 : decide ((0 : Int) ≤ hi) = true := decide_eq_true h2
        by_cases h3 : hi < (v : Int)
        · have q3 : decide (hi < (v : Int)) = true := decide_eq_true h3
          have hz : lgOut ⟨0, v, m, q⟩ lo hi = 4 := by unfold lgOut; rw [if_neg (by simp), if_pos (.inr ⟨h2, h3⟩)]
          rw [hz, if_neg (by decide), if_neg (by decide)]
          clear hz h1 h2 h3
          go_enter Tryz.func58, Tryz.ntmps58
          go_wp2_with fail
          refine HV.out.mono ?_
          rintro e' w1 ⟨rfl, rfl⟩
          go_wp2_with fail
          refine HN.out.mono ?_
          rintro e' w1 ⟨rfl, rfl⟩
          go_wp2_with fail
          refine HF.out.mono ?_
          rintro e' w1 ⟨rfl, h1, h2⟩
          have H1 := Lib.hid h1
          have H2 := Lib.hid h2
          clear h1 h2 
          go_wp2_with fail
          go_ret3
          exact ⟨rfl, H1.out, H2.out⟩
        · have q3 : decide (hi < (v : Int)) = false := decide_eq_false h3
          have hz : lgOut ⟨0, v, m, q⟩ lo hi = 0 := by unfold lgOut; rw [if_neg (by simp), if_neg (by simp only [not_or]; exact ⟨by simp; try omega, by simp; omega⟩)]
          rw [hz, if_pos rfl, if_pos rfl]
          clear hz h1 h2 h3
          go_enter Tryz.func58, Tryz.ntmps58
          go_wp2_with fail
          refine HV.out.mono ?_
          rintro e' w1 ⟨rfl, rfl⟩
          go_wp2_with fail
          refine HN.out.mono ?_
          rintro e' w1 ⟨rfl, rfl⟩
          go_wp2_with fail
          refine HF.out.mono ?_
          rintro e' w1 ⟨rfl, h1, h2⟩
          have H1 := Lib.hid h1
          have H2 := Lib.hid h2
          clear h1 h2 
          go_wp2_with fail
          go_ret3
          exact ⟨rfl, H1.out, H2.out⟩
      · have q2 : decide ((0 : Int) ≤ hi) = false := decide_eq_false h2
        have hz : lgOut ⟨0, v, m, q⟩ lo hi = 0 := by unfold lgOut; rw [if_neg (by simp), if_neg (by simp only [not_or]; exact ⟨by simp; try omega, by simp; omega⟩)]
        rw [hz, if_pos rfl, if_pos rfl]
        clear hz h1 h2
        go_enter Tryz.func58, Tryz.ntmps58
        go_wp2_with fail
        refine HV.out.mono ?_
        rintro e' w1 ⟨rfl, rfl⟩
        go_wp2_with fail
        refine HN.out.mono ?_
        rintro e' w1 ⟨rfl, rfl⟩
        go_wp2_with fail
        refine HF.out.mono ?_
        rintro e' w1 ⟨rfl, h1, h2⟩
        have H1 := Lib.hid h1
        have H2 := Lib.hid h2
        clear h1 h2 
        go_wp2_with fail
        go_ret3
        exact ⟨rfl, H1.out, H2.out⟩
  · have hz : lgOut ⟨e, v, m, q⟩ lo hi = e := if_pos he
    rw [hz, if_neg he, if_neg he]
    obtain ⟨n1, n2⟩ := ne_facts' he
    clear hz he
    go_enter Tryz.func58, Tryz.ntmps58
    go_wp2_with fail
    refine HV.out.mono ?_
    rintro e' w1 ⟨rfl, rfl⟩
    go_wp2_with fail
    refine HN.out.mono ?_
    rintro e' w1 ⟨rfl, rfl⟩
    go_wp2_with fail
    refine HF.out.mono ?_
    rintro e' w1 ⟨rfl, h1, h2⟩
    have H1 := Lib.hid h1
    have H2 := Lib.hid h2
    clear h1 h2 
    go_wp2_with fail
    go_ret3
    exact ⟨rfl, H1.out, H2.out⟩
theorem rlget_any (w : World) (b : Nat) (L : List Nat) (p : Nat) (al : Bool) (lo hi : Int) (h : QAt w b (bitsOf L) p) (hL : L.length ≤ 1000000) (b2 : -9223372036854775808 ≤ lo ∧ lo ≤ 9223372036854775807) (b3 : -9223372036854775808 ≤ hi ∧ hi ≤ 9223372036854775807) :
    Calls Tryz.prog 58 #[.pointer (some ⟨b, 0, none⟩), .bool al, .int .i64 lo, .int .i64 hi] w fun e' w' =>
      e' = .returned (.tuple #[.int .i64 (lgN al L p lo hi), .bool (lgM al L p lo hi), .int .i64 (lgE al L p lo hi)]) ∧ QAt w' b (bitsOf L) (lgP al L p lo hi) ∧ Only b w w' := by
  by_cases hb : lBad lo hi
  · obtain ⟨g1, g2, g3, g4⟩ := lg_bad hb al L p
    rw [g1, g2, g3, g4]
    have HV := Lib.hid (may_ok lo hi w false (by simp [hb]))
    have HR := Lib.hid h
    clear h g1 g2 g3 g4 hb
    go_enter Tryz.func58, Tryz.ntmps58
    go_wp2_with fail
    refine HV.out.mono ?_
    rintro e' w1 ⟨rfl, rfl⟩
    go_wp2_with fail
    go_ret3
    exact ⟨rfl, HR.out, Only.refl _ _⟩
  by_cases hh : 0 ≤ hi ∧ hi ≤ 65535
  · obtain ⟨g1, g2, g3, g4⟩ := lg_nar hb hh al L p
    rw [g1, g2, g3, g4]
    have HV := Lib.hid (may_ok lo hi w true (by simp [hb]))
    have HN := Lib.hid (close_ok hi w true (lNar_yes hh).symm)
    have HG := Lib.hid (rrget_all w b L p al lo hi h hL b2 b3)
    clear h g1 g2 g3 g4 hb hh
    generalize gN al L p lo hi = n at *
    generalize gE al L p lo hi = e at *
    generalize gP al L p lo hi = q at *
    go_enter Tryz.func58, Tryz.ntmps58
    go_wp2_with fail
    refine HV.out.mono ?_
    rintro e' w1 ⟨rfl, rfl⟩
    go_wp2_with fail
    refine HN.out.mono ?_
    rintro e' w1 ⟨rfl, rfl⟩
    go_wp2_with fail
    refine HG.out.mono ?_
    rintro e' w1 ⟨rfl, h1, h2⟩
    have H1 := Lib.hid h1
    have H2 := Lib.hid h2
    clear h1 h2 
    go_wp2_with fail
    go_ret3
    exact ⟨rfl, H1.out, H2.out⟩
  · obtain ⟨g1, g2, g3, g4⟩ := lg_form hb hh al L p
    rw [g1, g2, g3, g4]
    exact rlget_from w b L p al lo hi _ hb hh (ropen_any w b L p al h hL)
theorem rlget_open (w : World) (b : Nat) (L : List Nat) (p : Nat) (al : Bool) (h : QAt w b (bitsOf L) p) (hL : L.length ≤ 1000000) :
    Calls Tryz.prog 58 #[.pointer (some ⟨b, 0, none⟩), .bool al, .int .i64 0, .int .i64 (-1)] w fun e' w' => QlC w b L (rlF al L p) e' w' := by
  have h1 := rlget_any w b L p al 0 (-1) h hL (by omega) (by omega)
  obtain ⟨g1, g2, g3, g4⟩ := lg_form (lo := 0) (hi := -1) (by unfold lBad; omega) (by omega) al L p
  rw [g1, g2, g3, g4, lgOut_open] at h1
  unfold QlC
  by_cases he : (rlF al L p).e = 0
  · rw [if_pos he, if_pos he] at h1
    exact h1
  · rw [if_neg he, if_neg he] at h1
    obtain ⟨v0, m0⟩ := rlF_bad al L p he
    rw [v0, m0]
    exact h1
theorem rgval1 (L : List Nat) (p : Nat) : gval L p 1 < 2 := gval_lt L p 1
theorem rgval6 (L : List Nat) (p : Nat) : gval L p 6 < 64 := gval_lt L p 6
end Go.Proofs.YtbpfggkpfaobhaaGreat
