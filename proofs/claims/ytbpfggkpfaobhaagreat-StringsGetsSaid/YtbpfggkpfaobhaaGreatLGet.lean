/-
  length.Get and length.GetSmall, whatever they are given.
-/
import Derived.Test.YtbpfggkpfaobhaaGreatLen
import Derived.Test.YtbpfggkpfaobhaaGreatWGet2
import Derived.Laws.Bits64b
namespace Go.Proofs.YtbpfggkpfaobhaaGreat
open Go.RowKit
set_option linter.unusedVariables false
set_option linter.unusedSimpArgs false
set_option maxRecDepth 100000

theorem or_sec (h v : Nat) (hh : h < 64) (hv : v < 256) : bits .or .i64 ((h : Int) * 256) (v : Int) = ((256 * h + v : Nat) : Int) := by
  have h1 : (BitVec.ofInt 64 ((h : Int) * 256)).toNat = 256 * h := by
    rw [show (h : Int) * 256 = ((256 * h : Nat) : Int) by omega, BitVec.ofInt_natCast, BitVec.toNat_ofNat]
    exact Nat.mod_eq_of_lt (by omega)
  have h2 : (BitVec.ofInt 64 (v : Int)).toNat = v := by
    rw [BitVec.ofInt_natCast, BitVec.toNat_ofNat]
    exact Nat.mod_eq_of_lt (by omega)
  have h3 : 256 * h ||| v = 256 * h + v := (Nat.two_pow_add_eq_or_of_lt (i := 8) (b := v) (by omega) h).symm
  show IntKind.i64.wrap ((BitVec.ofInt 64 ((h : Int) * 256) ||| BitVec.ofInt 64 (v : Int)).toNat : Int) = _
  rw [BitVec.toNat_or, h1, h2, h3, IntKind.wrap_i64]
  omega
theorem and_63 (v : Nat) (hv : v < 256) : wrap64 (bits .and .u64 (v : Int) 63) = ((v % 64 : Nat) : Int) := by
  have h1 := bits_and_u64_nat v 63 (by omega) (by omega)
  rw [show (63 : Nat) = 2 ^ 6 - 1 from rfl, Nat.and_two_pow_sub_one_eq_mod] at h1
  have h2 : bits .and .u64 (v : Int) 63 = ((v % 64 : Nat) : Int) := h1
  rw [h2]
  simp only [wrap64, IntKind.wrap, IntKind.signed, IntKind.bits]
  simp
  omega
theorem gval8 (L : List Nat) (p : Nat) : gval L p 8 < 256 := gval_lt L p 8
def RsC (w : World) (b : Nat) (s : Value) (L : List Nat) (o : Rl) (e' : Ending) (w' : World) : Prop := e' = .returned (.tuple #[.int .i64 o.v, .int .i64 o.e]) ∧ RdAt w' b s L o.p ∧ Only b w w'
def RlC (w : World) (b : Nat) (s : Value) (L : List Nat) (o : Rl) (e' : Ending) (w' : World) : Prop := e' = .returned (.tuple #[.int .i64 o.v, .bool o.m, .int .i64 o.e]) ∧ RdAt w' b s L o.p ∧ Only b w w'
def RiC (w : World) (b : Nat) (s : Value) (L : List Nat) (o : Rd) (e' : Ending) (w' : World) : Prop := e' = .returned (.tuple #[.int .i64 o.v, .int .i64 o.e]) ∧ RdAt w' b s L o.p ∧ Only b w w'
theorem getSecond_ok (w : World) (b : Nat) {s : Value} (L : List Nat) (p h : Nat) (hr : RdAt w b s L p) (hL : L.length ≤ 1000000000) (hh : h < 64) :
    Calls Tryz.prog 91 #[.pointer (some ⟨b, 0, none⟩), .int .i64 h] w fun e' w' => RsC w b s L (rlSec L p h) e' w' := by
  have h8 := gval8 L p
  have HG := Lib.hid (get_any w b (s := s) L p 8 hr (by omega))
  unfold rlSec
  by_cases he : gerr L p 8 = 0
  · rw [he] at HG
    rw [if_pos he]
    clear hr he
    generalize gval L p 8 = v at *
    generalize gpos L p 8 = q at *
    have hb := or_sec h v hh h8
    generalize 256 * h + v = z at *
    by_cases hz : z < 128
    · rw [if_pos hz]
      have q1 : decide ((z : Int) < 128) = true := decide_eq_true (by omega)
      go_enter Tryz.func91, Tryz.ntmps91
      go_wp2_with fail
      refine HG.out.mono ?_
      rintro e' w1 ⟨rfl, h1, h2⟩
      have H1 := Lib.hid h1
      have H2 := Lib.hid h2
      clear h1 h2 
      go_wp2_with fail
      go_ret2
      exact ⟨rfl, H1.out, H2.out⟩
    · rw [if_neg hz]
      have q1 : decide ((z : Int) < 128) = false := decide_eq_false (by omega)
      go_enter Tryz.func91, Tryz.ntmps91
      go_wp2_with fail
      refine HG.out.mono ?_
      rintro e' w1 ⟨rfl, h1, h2⟩
      have H1 := Lib.hid h1
      have H2 := Lib.hid h2
      clear h1 h2 
      go_wp2_with fail
      go_ret2
      exact ⟨rfl, H1.out, H2.out⟩
  · rw [if_neg he]
    obtain ⟨n1, n2⟩ := ne_facts he
    clear hr he h8
    generalize gval L p 8 = v at *
    generalize gerr L p 8 = ge at *
    generalize gpos L p 8 = q at *
    go_enter Tryz.func91, Tryz.ntmps91
    go_wp2_with fail
    refine HG.out.mono ?_
    rintro e' w1 ⟨rfl, h1, h2⟩
    have H1 := Lib.hid h1
    have H2 := Lib.hid h2
    clear h1 h2 
    go_wp2_with fail
    go_ret2
    exact ⟨rfl, H1.out, H2.out⟩
theorem getForm_pl (w : World) (b : Nat) {s : Value} (L : List Nat) (p p0 : Nat) (al : Bool) (h0 : RdAt w b s L p0) (hA : al = true → aerr L p0 = 0 ∧ apos L p0 = p) (hB : al = false → p0 = p) (hL : L.length ≤ 1000000000) :
    Calls Tryz.prog 85 #[.pointer (some ⟨b, 0, none⟩), .bool al] w fun e' w' => RlC w b s L (rlPl L p) e' w' := by
  have h8 := gval8 L p
  have HG := Lib.hid (fun w h => get_any w b (s := s) L p 8 h (by omega))
  have HS := Lib.hid (fun w h hh => getSecond_ok w b (s := s) L (gpos L p 8) (gval L p 8 - 128) h hL hh)
  have HA := Lib.hid (fun w h => ralign_all w b (s := s) L p0 h (by omega))
  have hr' : al = true ∧ (∀ w, RdAt w b s L p0 → Calls Tryz.prog 69 #[.pointer (some ⟨b, 0, none⟩)] w fun e w' => e = .returned (.int .i64 0) ∧ RdAt w' b s L p ∧ Only b w w') ∨ al = false ∧ RdAt w b s L p := by
    cases al with
    | true =>
      refine .inl ⟨rfl, fun w h => ?_⟩
      have := HA.out w h
      rw [(hA rfl).1, (hA rfl).2] at this
      exact this
    | false => exact .inr ⟨rfl, hB rfl ▸ h0⟩
  have HR0 := Lib.hid h0
  clear HA hA hB h0
  unfold rlPl
  by_cases he : gerr L p 8 = 0
  · rw [he] at HG
    rw [if_pos he]
    clear he
    generalize gval L p 8 = v at *
    generalize gpos L p 8 = q at *
    have ha := and_63 v h8
    unfold rlOct
    by_cases c1 : v < 128
    · rw [if_pos c1]
      have m1 : (max 1 ((v : Int) / 64) == 1) = true := by rw [beq_iff_eq]; omega
      clear ha
      rcases hr' with ⟨rfl, hal⟩ | ⟨rfl, hr⟩
      · have HA := Lib.hid hal
        clear hal
        go_enter Tryz.func85, Tryz.ntmps85
        go_wp2_with fail
        refine (HA.out w HR0.out).mono ?_
        rintro e' w1 ⟨rfl, h1, h2⟩
        have H1 := Lib.hid h1
        have H2 := Lib.hid h2
        clear h1 h2 
        go_wp2_with fail
        refine (HG.out w1 H1.out).mono ?_
        rintro e' w2 ⟨rfl, h1, h2⟩
        have H3 := Lib.hid h1
        have H4 := Lib.hid (H2.out.trans h2)
        clear h1 h2 
        go_wp2_with fail
        go_ret3
        exact ⟨rfl, H3.out, H4.out⟩
      · have HR := Lib.hid hr
        clear hr
        go_enter Tryz.func85, Tryz.ntmps85
        go_wp2_with fail
        refine (HG.out w HR.out).mono ?_
        rintro e' w2 ⟨rfl, h1, h2⟩
        have H3 := Lib.hid h1
        have H4 := Lib.hid h2
        clear h1 h2 
        go_wp2_with fail
        go_ret3
        exact ⟨rfl, H3.out, H4.out⟩
    rw [if_neg c1]
    have m1 : (max 1 ((v : Int) / 64) == 1) = false := by rw [beq_eq_false_iff_ne]; omega
    by_cases c2 : v < 192
    · rw [if_pos c2]
      have m2 : (max 1 ((v : Int) / 64) == 2) = true := by rw [beq_iff_eq]; omega
      rw [show v % 64 = v - 128 by omega] at ha
      have HS := Lib.hid (fun w h => HS.out w h (by omega))
      generalize v - 128 = r at *
      have hom := rlSec_m L q r
      generalize rlSec L q r = o at *
      obtain ⟨oe, ov, om, op⟩ := o
      have hom : om = false := hom
      subst hom
      rcases hr' with ⟨rfl, hal⟩ | ⟨rfl, hr⟩
      · have HA := Lib.hid hal
        clear hal
        go_enter Tryz.func85, Tryz.ntmps85
        go_wp2_with fail
        refine (HA.out w HR0.out).mono ?_
        rintro e' w1 ⟨rfl, h1, h2⟩
        have H1 := Lib.hid h1
        have H2 := Lib.hid h2
        clear h1 h2 
        go_wp2_with fail
        refine (HG.out w1 H1.out).mono ?_
        rintro e' w2 ⟨rfl, h1, h2⟩
        have H3 := Lib.hid h1
        have H4 := Lib.hid (H2.out.trans h2)
        clear h1 h2 
        go_wp2_with fail
        refine (HS.out w2 H3.out).mono ?_
        rintro e' w3 ⟨rfl, h1, h2⟩
        have H5 := Lib.hid h1
        have H6 := Lib.hid (H4.out.trans h2)
        clear h1 h2 
        go_wp2_with fail
        go_ret3
        exact ⟨rfl, H5.out, H6.out⟩
      · have HR := Lib.hid hr
        clear hr
        go_enter Tryz.func85, Tryz.ntmps85
        go_wp2_with fail
        refine (HG.out w HR.out).mono ?_
        rintro e' w2 ⟨rfl, h1, h2⟩
        have H3 := Lib.hid h1
        have H4 := Lib.hid h2
        clear h1 h2 
        go_wp2_with fail
        refine (HS.out w2 H3.out).mono ?_
        rintro e' w3 ⟨rfl, h1, h2⟩
        have H5 := Lib.hid h1
        have H6 := Lib.hid (H4.out.trans h2)
        clear h1 h2 
        go_wp2_with fail
        go_ret3
        exact ⟨rfl, H5.out, H6.out⟩
    rw [if_neg c2]
    have m2 : (max 1 ((v : Int) / 64) == 2) = false := by rw [beq_eq_false_iff_ne]; omega
    by_cases c3 : v < 193
    · rw [if_pos (.inl c3)]
      obtain ⟨r, hr⟩ : ∃ r, v % 64 = r := ⟨_, rfl⟩
      rw [hr] at ha
      have q1 : decide ((r : Int) < 1) = true := decide_eq_true (by omega)
      clear hr
      rcases hr' with ⟨rfl, hal⟩ | ⟨rfl, hr⟩
      · have HA := Lib.hid hal
        clear hal
        go_enter Tryz.func85, Tryz.ntmps85
        go_wp2_with fail
        refine (HA.out w HR0.out).mono ?_
        rintro e' w1 ⟨rfl, h1, h2⟩
        have H1 := Lib.hid h1
        have H2 := Lib.hid h2
        clear h1 h2 
        go_wp2_with fail
        refine (HG.out w1 H1.out).mono ?_
        rintro e' w2 ⟨rfl, h1, h2⟩
        have H3 := Lib.hid h1
        have H4 := Lib.hid (H2.out.trans h2)
        clear h1 h2 
        go_wp2_with fail
        go_ret3
        exact ⟨rfl, H3.out, H4.out⟩
      · have HR := Lib.hid hr
        clear hr
        go_enter Tryz.func85, Tryz.ntmps85
        go_wp2_with fail
        refine (HG.out w HR.out).mono ?_
        rintro e' w2 ⟨rfl, h1, h2⟩
        have H3 := Lib.hid h1
        have H4 := Lib.hid h2
        clear h1 h2 
        go_wp2_with fail
        go_ret3
        exact ⟨rfl, H3.out, H4.out⟩
    by_cases c4 : 196 < v
    · rw [if_pos (.inr c4)]
      obtain ⟨r, hr⟩ : ∃ r, v % 64 = r := ⟨_, rfl⟩
      rw [hr] at ha
      have q1 : decide ((r : Int) < 1) = false := decide_eq_false (by omega)
      have q2 : decide ((4 : Int) < (r : Int)) = true := decide_eq_true (by omega)
      clear hr
      rcases hr' with ⟨rfl, hal⟩ | ⟨rfl, hr⟩
      · have HA := Lib.hid hal
        clear hal
        go_enter Tryz.func85, Tryz.ntmps85
        go_wp2_with fail
        refine (HA.out w HR0.out).mono ?_
        rintro e' w1 ⟨rfl, h1, h2⟩
        have H1 := Lib.hid h1
        have H2 := Lib.hid h2
        clear h1 h2 
        go_wp2_with fail
        refine (HG.out w1 H1.out).mono ?_
        rintro e' w2 ⟨rfl, h1, h2⟩
        have H3 := Lib.hid h1
        have H4 := Lib.hid (H2.out.trans h2)
        clear h1 h2 
        go_wp2_with fail
        go_ret3
        exact ⟨rfl, H3.out, H4.out⟩
      · have HR := Lib.hid hr
        clear hr
        go_enter Tryz.func85, Tryz.ntmps85
        go_wp2_with fail
        refine (HG.out w HR.out).mono ?_
        rintro e' w2 ⟨rfl, h1, h2⟩
        have H3 := Lib.hid h1
        have H4 := Lib.hid h2
        clear h1 h2 
        go_wp2_with fail
        go_ret3
        exact ⟨rfl, H3.out, H4.out⟩
    rw [if_neg (show ¬ (v < 193 ∨ 196 < v) by omega)]
    obtain ⟨r, hr⟩ : ∃ r, v % 64 = r := ⟨_, rfl⟩
    rw [hr] at ha
    have q1 : decide ((r : Int) < 1) = false := decide_eq_false (by omega)
    have q2 : decide ((4 : Int) < (r : Int)) = false := decide_eq_false (by omega)
    have q3 : 16384 * (v - 192) = 16384 * r ∧ r ≤ 4 := by omega
    rw [q3.1]
    have q4 := q3.2
    clear hr q3
    rcases hr' with ⟨rfl, hal⟩ | ⟨rfl, hr⟩
    · have HA := Lib.hid hal
      clear hal
      go_enter Tryz.func85, Tryz.ntmps85
      go_wp2_with fail
      refine (HA.out w HR0.out).mono ?_
      rintro e' w1 ⟨rfl, h1, h2⟩
      have H1 := Lib.hid h1
      have H2 := Lib.hid h2
      clear h1 h2 
      go_wp2_with fail
      refine (HG.out w1 H1.out).mono ?_
      rintro e' w2 ⟨rfl, h1, h2⟩
      have H3 := Lib.hid h1
      have H4 := Lib.hid (H2.out.trans h2)
      clear h1 h2 
      go_wp2_with fail
      go_ret3
      exact ⟨rfl, H3.out, H4.out⟩
    · have HR := Lib.hid hr
      clear hr
      go_enter Tryz.func85, Tryz.ntmps85
      go_wp2_with fail
      refine (HG.out w HR.out).mono ?_
      rintro e' w2 ⟨rfl, h1, h2⟩
      have H3 := Lib.hid h1
      have H4 := Lib.hid h2
      clear h1 h2 
      go_wp2_with fail
      go_ret3
      exact ⟨rfl, H3.out, H4.out⟩
  · rw [if_neg he]
    obtain ⟨n1, n2⟩ := ne_facts he
    clear he h8 HS
    generalize gval L p 8 = v at *
    generalize gerr L p 8 = ge at *
    generalize gpos L p 8 = q at *
    rcases hr' with ⟨rfl, hal⟩ | ⟨rfl, hr⟩
    · have HA := Lib.hid hal
      clear hal
      go_enter Tryz.func85, Tryz.ntmps85
      go_wp2_with fail
      refine (HA.out w HR0.out).mono ?_
      rintro e' w1 ⟨rfl, h1, h2⟩
      have H1 := Lib.hid h1
      have H2 := Lib.hid h2
      clear h1 h2 
      go_wp2_with fail
      refine (HG.out w1 H1.out).mono ?_
      rintro e' w2 ⟨rfl, h1, h2⟩
      have H3 := Lib.hid h1
      have H4 := Lib.hid (H2.out.trans h2)
      clear h1 h2 
      go_wp2_with fail
      go_ret3
      exact ⟨rfl, H3.out, H4.out⟩
    · have HR := Lib.hid hr
      clear hr
      go_enter Tryz.func85, Tryz.ntmps85
      go_wp2_with fail
      refine (HG.out w HR.out).mono ?_
      rintro e' w2 ⟨rfl, h1, h2⟩
      have H3 := Lib.hid h1
      have H4 := Lib.hid h2
      clear h1 h2 
      go_wp2_with fail
      go_ret3
      exact ⟨rfl, H3.out, H4.out⟩
theorem getForm_any (w : World) (b : Nat) {s : Value} (L : List Nat) (p : Nat) (al : Bool) (h : RdAt w b s L p) (hL : L.length ≤ 1000000000) :
    Calls Tryz.prog 85 #[.pointer (some ⟨b, 0, none⟩), .bool al] w fun e' w' => RlC w b s L (rlF al L p) e' w' := by
  unfold rlF
  cases al with
  | false =>
    rw [if_neg (by decide)]
    exact getForm_pl w b L p p false h (fun e => by cases e) (fun _ => rfl) hL
  | true =>
    rw [if_pos rfl]
    by_cases ha : aerr L p = 0
    · rw [if_pos ha]
      exact getForm_pl w b L (apos L p) p true h (fun _ => ⟨ha, rfl⟩) (fun e => by cases e) hL
    · rw [if_neg ha]
      obtain ⟨n1, n2⟩ := ne_facts ha
      have HA := Lib.hid (ralign_all w b (s := s) L p h (by omega))
      clear ha h
      generalize apos L p = q at *
      generalize aerr L p = ae at *
      go_enter Tryz.func85, Tryz.ntmps85
      go_wp2_with fail
      refine HA.out.mono ?_
      rintro e' w1 ⟨rfl, h1, h2⟩
      have H1 := Lib.hid h1
      have H2 := Lib.hid h2
      clear h1 h2 
      go_wp2_with fail
      go_ret3
      exact ⟨rfl, H1.out, H2.out⟩
theorem lget_from (w : World) (b : Nat) {s : Value} (L : List Nat) (p : Nat) (al : Bool) (lo hi : Int) (o : Rl) (hb : ¬ lBad lo hi) (hh : ¬ (0 ≤ hi ∧ hi ≤ 65535)) (hF : Calls Tryz.prog 85 #[.pointer (some ⟨b, 0, none⟩), .bool al] w fun e' w' => RlC w b s L o e' w') :
    Calls Tryz.prog 70 #[.pointer (some ⟨b, 0, none⟩), .bool al, .int .i64 lo, .int .i64 hi] w fun e' w' =>
      e' = .returned (.tuple #[.int .i64 (if lgOut o lo hi = 0 then (o.v : Int) else 0), .bool (if lgOut o lo hi = 0 then o.m else false), .int .i64 (lgOut o lo hi)]) ∧ RdAt w' b s L o.p ∧ Only b w w' := by
  have HV := Lib.hid (valid_ok lo hi w true (by simp [hb]))
  have HN := Lib.hid (narrow_ok hi w false (lNar_no hh).symm)
  have HF := Lib.hid hF
  clear hb hh hF
  obtain ⟨e, v, m, q⟩ := o
  by_cases he : e = 0
  · subst he
    by_cases h1 : (v : Int) < lo
    · have q1 : decide ((v : Int) < lo) = true := decide_eq_true h1
      cases m with
      | false =>
        have hz : lgOut ⟨0, v, false, q⟩ lo hi = 4 := by unfold lgOut; rw [if_neg (by simp), if_pos (.inl ⟨h1, rfl⟩)]
        rw [hz, if_neg (by decide), if_neg (by decide)]
        clear hz h1
        go_enter Tryz.func70, Tryz.ntmps70
        go_wp2_with fail
        refine HV.out.mono ?_
        rintro e' w1 ⟨rfl, rfl⟩
        go_wp2_with fail
        refine HN.out.mono ?_
        rintro e' w1 ⟨rfl, rfl⟩
        go_wp2_with fail
        refine HF.out.mono ?_
        rintro e' w1 ⟨rfl, h1, h2⟩
        have H1 := Lib.hid h1
        have H2 := Lib.hid h2
        clear h1 h2 
        go_wp2_with fail
        go_ret3
        exact ⟨rfl, H1.out, H2.out⟩
      | true =>
        by_cases h2 : 0 ≤ hi ∧ hi < (v : Int)
        · have HE := Lib.hid (fun w => exceeds_ok v hi w true (decide_eq_true h2).symm)
          have hz : lgOut ⟨0, v, true, q⟩ lo hi = 4 := by unfold lgOut; rw [if_neg (by simp), if_pos (.inr h2)]
          rw [hz, if_neg (by decide), if_neg (by decide)]
          clear hz h1 h2
          go_enter Tryz.func70, Tryz.ntmps70
          go_wp2_with fail
          refine HV.out.mono ?_
          rintro e' w1 ⟨rfl, rfl⟩
          go_wp2_with fail
          refine HN.out.mono ?_
          rintro e' w1 ⟨rfl, rfl⟩
          go_wp2_with fail
          refine HF.out.mono ?_
          rintro e' w1 ⟨rfl, h1, h2⟩
          have H1 := Lib.hid h1
          have H2 := Lib.hid h2
          clear h1 h2 
          go_wp2_with fail
          refine (HE.out w1).mono ?_
          rintro e' w2 ⟨rfl, rfl⟩
          go_wp2_with fail
          go_ret3
          exact ⟨rfl, H1.out, H2.out⟩
        · have HE := Lib.hid (fun w => exceeds_ok v hi w false (decide_eq_false h2).symm)
          have hz : lgOut ⟨0, v, true, q⟩ lo hi = 0 := by unfold lgOut; rw [if_neg (by simp), if_neg (by simp only [not_or]; exact ⟨by simp; try omega, h2⟩)]
          rw [hz, if_pos rfl, if_pos rfl]
          clear hz h1 h2
          go_enter Tryz.func70, Tryz.ntmps70
          go_wp2_with fail
          refine HV.out.mono ?_
          rintro e' w1 ⟨rfl, rfl⟩
          go_wp2_with fail
          refine HN.out.mono ?_
          rintro e' w1 ⟨rfl, rfl⟩
          go_wp2_with fail
          refine HF.out.mono ?_
          rintro e' w1 ⟨rfl, h1, h2⟩
          have H1 := Lib.hid h1
          have H2 := Lib.hid h2
          clear h1 h2 
          go_wp2_with fail
          refine (HE.out w1).mono ?_
          rintro e' w2 ⟨rfl, rfl⟩
          go_wp2_with fail
          go_ret3
          exact ⟨rfl, H1.out, H2.out⟩
    · have q1 : decide ((v : Int) < lo) = false := decide_eq_false h1
      by_cases h2 : 0 ≤ hi ∧ hi < (v : Int)
      · have HE := Lib.hid (fun w => exceeds_ok v hi w true (decide_eq_true h2).symm)
        have hz : lgOut ⟨0, v, m, q⟩ lo hi = 4 := by unfold lgOut; rw [if_neg (by simp), if_pos (.inr h2)]
        rw [hz, if_neg (by decide), if_neg (by decide)]
        clear hz h1 h2
        go_enter Tryz.func70, Tryz.ntmps70
        go_wp2_with fail
        refine HV.out.mono ?_
        rintro e' w1 ⟨rfl, rfl⟩
        go_wp2_with fail
        refine HN.out.mono ?_
        rintro e' w1 ⟨rfl, rfl⟩
        go_wp2_with fail
        refine HF.out.mono ?_
        rintro e' w1 ⟨rfl, h1, h2⟩
        have H1 := Lib.hid h1
        have H2 := Lib.hid h2
        clear h1 h2 
        go_wp2_with fail
        refine (HE.out w1).mono ?_
        rintro e' w2 ⟨rfl, rfl⟩
        go_wp2_with fail
        go_ret3
        exact ⟨rfl, H1.out, H2.out⟩
      · have HE := Lib.hid (fun w => exceeds_ok v hi w false (decide_eq_false h2).symm)
        have hz : lgOut ⟨0, v, m, q⟩ lo hi = 0 := by unfold lgOut; rw [if_neg (by simp), if_neg (by simp only [not_or]; exact ⟨by simp; try omega, h2⟩)]
        rw [hz, if_pos rfl, if_pos rfl]
        clear hz h1 h2
        go_enter Tryz.func70, Tryz.ntmps70
        go_wp2_with fail
        refine HV.out.mono ?_
        rintro e' w1 ⟨rfl, rfl⟩
        go_wp2_with fail
        refine HN.out.mono ?_
        rintro e' w1 ⟨rfl, rfl⟩
        go_wp2_with fail
        refine HF.out.mono ?_
        rintro e' w1 ⟨rfl, h1, h2⟩
        have H1 := Lib.hid h1
        have H2 := Lib.hid h2
        clear h1 h2 
        go_wp2_with fail
        refine (HE.out w1).mono ?_
        rintro e' w2 ⟨rfl, rfl⟩
        go_wp2_with fail
        go_ret3
        exact ⟨rfl, H1.out, H2.out⟩
  · have hz : lgOut ⟨e, v, m, q⟩ lo hi = e := if_pos he
    rw [hz, if_neg he, if_neg he]
    obtain ⟨n1, n2⟩ := ne_facts he
    clear hz he
    go_enter Tryz.func70, Tryz.ntmps70
    go_wp2_with fail
    refine HV.out.mono ?_
    rintro e' w1 ⟨rfl, rfl⟩
    go_wp2_with fail
    refine HN.out.mono ?_
    rintro e' w1 ⟨rfl, rfl⟩
    go_wp2_with fail
    refine HF.out.mono ?_
    rintro e' w1 ⟨rfl, h1, h2⟩
    have H1 := Lib.hid h1
    have H2 := Lib.hid h2
    clear h1 h2 
    go_wp2_with fail
    go_ret3
    exact ⟨rfl, H1.out, H2.out⟩
theorem lget_any (w : World) (b : Nat) {s : Value} (L : List Nat) (p : Nat) (al : Bool) (lo hi : Int) (h : RdAt w b s L p) (hL : L.length ≤ 1000000000) (b2 : -9223372036854775808 ≤ lo ∧ lo ≤ 9223372036854775807) (b3 : -9223372036854775808 ≤ hi ∧ hi ≤ 9223372036854775807) :
    Calls Tryz.prog 70 #[.pointer (some ⟨b, 0, none⟩), .bool al, .int .i64 lo, .int .i64 hi] w fun e' w' =>
      e' = .returned (.tuple #[.int .i64 (lgN al L p lo hi), .bool (lgM al L p lo hi), .int .i64 (lgE al L p lo hi)]) ∧ RdAt w' b s L (lgP al L p lo hi) ∧ Only b w w' := by
  by_cases hb : lBad lo hi
  · obtain ⟨g1, g2, g3, g4⟩ := lg_bad hb al L p
    rw [g1, g2, g3, g4]
    have HV := Lib.hid (valid_ok lo hi w false (by simp [hb]))
    have HR := Lib.hid h
    clear h g1 g2 g3 g4 hb
    go_enter Tryz.func70, Tryz.ntmps70
    go_wp2_with fail
    refine HV.out.mono ?_
    rintro e' w1 ⟨rfl, rfl⟩
    go_wp2_with fail
    go_ret3
    exact ⟨rfl, HR.out, Only.refl _ _⟩
  by_cases hh : 0 ≤ hi ∧ hi ≤ 65535
  · obtain ⟨g1, g2, g3, g4⟩ := lg_nar hb hh al L p
    rw [g1, g2, g3, g4]
    have HV := Lib.hid (valid_ok lo hi w true (by simp [hb]))
    have HN := Lib.hid (narrow_ok hi w true (lNar_yes hh).symm)
    have HG := Lib.hid (wget_any w b L p al lo hi h hL b2 b3)
    clear h g1 g2 g3 g4 hb hh
    generalize gN al L p lo hi = n at *
    generalize gE al L p lo hi = e at *
    generalize gP al L p lo hi = q at *
    go_enter Tryz.func70, Tryz.ntmps70
    go_wp2_with fail
    refine HV.out.mono ?_
    rintro e' w1 ⟨rfl, rfl⟩
    go_wp2_with fail
    refine HN.out.mono ?_
    rintro e' w1 ⟨rfl, rfl⟩
    go_wp2_with fail
    refine HG.out.mono ?_
    rintro e' w1 ⟨rfl, h1, h2⟩
    have H1 := Lib.hid h1
    have H2 := Lib.hid h2
    clear h1 h2 
    go_wp2_with fail
    go_ret3
    exact ⟨rfl, H1.out, H2.out⟩
  · obtain ⟨g1, g2, g3, g4⟩ := lg_form hb hh al L p
    rw [g1, g2, g3, g4]
    exact lget_from w b L p al lo hi _ hb hh (getForm_any w b L p al h hL)
theorem lget_nil (w : World) (al : Bool) (lo hi : Int) :
    Calls Tryz.prog 70 #[.pointer none, .bool al, .int .i64 lo, .int .i64 hi] w fun e' w' => e' = .returned (.tuple #[.int .i64 0, .bool false, .int .i64 1]) ∧ w = w' := by
  go_enter Tryz.func70, Tryz.ntmps70
  go_wp2_with fail
  go_ret3
  exact ⟨rfl, rfl⟩
theorem lget_open (w : World) (b : Nat) {s : Value} (L : List Nat) (p : Nat) (al : Bool) (h : RdAt w b s L p) (hL : L.length ≤ 1000000000) :
    Calls Tryz.prog 70 #[.pointer (some ⟨b, 0, none⟩), .bool al, .int .i64 0, .int .i64 (-1)] w fun e' w' => RlC w b s L (rlF al L p) e' w' := by
  have h1 := lget_any w b L p al 0 (-1) h hL (by omega) (by omega)
  obtain ⟨g1, g2, g3, g4⟩ := lg_form (lo := 0) (hi := -1) (by unfold lBad; omega) (by omega) al L p
  rw [g1, g2, g3, g4, lgOut_open] at h1
  unfold RlC
  by_cases he : (rlF al L p).e = 0
  · rw [if_pos he, if_pos he] at h1
    exact h1
  · rw [if_neg he, if_neg he] at h1
    obtain ⟨v0, m0⟩ := rlF_bad al L p he
    rw [v0, m0]
    exact h1
theorem gval1 (L : List Nat) (p : Nat) : gval L p 1 < 2 := gval_lt L p 1
theorem gval6 (L : List Nat) (p : Nat) : gval L p 6 < 64 := gval_lt L p 6
end Go.Proofs.YtbpfggkpfaobhaaGreat
