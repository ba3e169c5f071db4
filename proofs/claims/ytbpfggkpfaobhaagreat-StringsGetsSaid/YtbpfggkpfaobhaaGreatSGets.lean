/-
  Proved: the statement StringsGets (which octets, bits and characters any bits are, of any bounds, from any place on, or why none, is what the document says), for every input; no further condition.
-/
import Derived.Test.YtbpfggkpfaobhaaGreatRows
import Derived.Test.YtbpfggkpfaobhaaGreatStLaw
import Derived.Test.YtbpfggkpfaobhaaGreatStRefJ
import Derived.Deep.QuietTactic
import Derived.Deep.RegionHeld3
import Derived.Deep.Cut
import Derived.ProofKit
import Derived.OpenShut
import Derived.ShutString
import Derived.ChangeOld
namespace Go.Proofs.YtbpfggkpfaobhaaGreat.stringsGets
open Go.ChangeShapes Go.WideShapes Go.ChangeAt Go.RowKit
open Go.ChangeMaps (open_string shut_string)
set_option linter.unusedVariables false
set_option linter.unusedSimpArgs false
set_option maxRecDepth 100000

theorem own : ownKnob Tryz.prog.godebug = none := by kernel_rfl
theorem laidOut : laidOutB Tryz.prog = true := by kernel_rfl

theorem drewN_still (w : World) : ∀ n, Still w (w.drewN n)
  | 0 => Still.refl w
  | n + 1 => (drewN_still w n).drew
theorem same_quiet (w : World) (n : Nat) (x y : Value) (l : List Nat) (hx : SlAt w x l) (hy : SlAt w y l) :
    Calls Tryz.prog 12 #[x, y] (w.drewN n) fun e w' => e = .returned (.bool true) ∧ ∃ m, w' = w.drewN m := by
  refine Calls.quiet_of_same ((stsame_yes _ _ _ l (hx.below ((drewN_still w n).below _)) (hy.below ((drewN_still w n).below _))).mono ?_)
  rintro e w8 ⟨rfl, rfl⟩
  exact ⟨rfl, rfl⟩
theorem get_m (w : World) (b : Nat) {s : Value} (L : List Nat) (m : Nat) (h : RdAt w b s L 0) (hL : L.length ≤ 10000000000) :
    Calls Tryz.prog 8 #[.pointer (some ⟨b, 0, none⟩), .int .i64 m] w fun e w' => (∃ x : Value, e = .returned x) ∧ RdAt w' b s L (gpos L 0 m) ∧ Only b w w' :=
  (get_any w b L 0 m h hL).mono fun e w' ⟨h1, h2, h3⟩ => ⟨⟨_, h1⟩, h2, h3⟩
theorem rget_m (w : World) (b : Nat) (L : List Nat) (m : Nat) (h : QAt w b (bitsOf L) 0) (hL : L.length ≤ 1000000000) :
    Calls Tryz.prog 9 #[.pointer (some ⟨b, 0, none⟩), .int .i64 m] w fun e w' => (∃ x : Value, e = .returned x) ∧ QAt w' b (bitsOf L) (gpos L 0 m) ∧ Only b w w' :=
  (rget_any w b L 0 m h hL).mono fun e w' ⟨h1, h2, h3⟩ => ⟨⟨_, h1⟩, h2, h3⟩
set_option maxHeartbeats 64000000 in
set_option maxRecDepth 100000 in
theorem walk_main (w : World) (a0 : Option Addr) (len0 cap0 : Nat) (l : List Nat) (hsl : SlAt w (.slice a0 len0 cap0) l) (hl : l.length = len0) (hin0 : ¬ (300 : Int) < (len0 : Int)) (k : Int) (al : Bool) (fr : ByteArray) (hin1 : ¬ (300 : Int) < (fr.size : Int)) (lo hi : Int) (b2 : -9223372036854775808 ≤ lo ∧ lo ≤ 9223372036854775807) (b3 : -9223372036854775808 ≤ hi ∧ hi ≤ 9223372036854775807) :
    Calls Tryz.prog 3 #[.slice a0 len0 cap0, .int .i64 k, .bool al, .string fr, .int .i64 lo, .int .i64 hi] w fun e w' => e = .returned (.bool true) ∧ Below w.heap.size w w' := by
  have HSL := Lib.hid hsl
  have hl8 : l.length ≤ 300 := by omega
  have hf8 : fr.size ≤ 300 := by omega
  have hq0 : decide ((300 : Int) < (len0 : Int)) = false := decide_eq_false hin0
  have hq1 : decide ((300 : Int) < (fr.size : Int)) = false := decide_eq_false hin1
  obtain ⟨m, hm⟩ : ∃ m : Nat, (m : Int) = k % 8 := ⟨(k % 8).toNat, by omega⟩
  have hk := i64_and7 k
  rw [← hm] at hk
  obtain ⟨p, hp⟩ : ∃ p, gpos l 0 m = p := ⟨_, rfl⟩
  have HP0 := Lib.hid hp
  have HT := Lib.hid (fun (h : fr.size ≠ 1 ∨ (0 ≤ hi ∧ hi ≤ 65535)) => pair_texts l p al fr lo hi (by omega) (by omega) h b2 b3)
  obtain ⟨E1, lx, p1, p1', h1p, h1a, h1b⟩ := pair_octs l p al lo hi (by omega) b2 b3
  obtain ⟨E2, S2, p2, p2', h2p, h2a, h2b⟩ := pair_bits l p al lo hi (by omega) b2 b3
  have H1p := Lib.hid h1p
  have H1a := Lib.hid h1a
  have H1b := Lib.hid h1b
  have H2p := Lib.hid h2p
  have H2a := Lib.hid h2a
  have H2b := Lib.hid h2b
  have HF := Lib.hid (fun w => sfits_ok lo hi w)
  clear hsl hl hm hin0 hin1 hp h1p h1a h1b h2p h2a h2b
  go_enter Tryz.func3, Tryz.ntmps3
  go_wp2_with fail
  refine (stawake _).mono ?_
  rintro e wd ⟨rfl, hb⟩
  have HB7 := Lib.hid hb
  clear hb
  go_wp2_with fail
  refine (HF.out _).mono ?_
  rintro e wa ⟨⟨fb, rfl⟩, rfl⟩
  cases fb with
  | false =>
    go_wp2_with fail
    go_ret
    exact ⟨rfl, HB7.out⟩
  | true =>
    go_wp2_with fail
    refine (new_ok wd _ l (HSL.out.below HB7.out) (by omega)).mono ?_
    rintro e w1 ⟨s, r, rfl, hr1, hrd1, hb1⟩
    have HB1 := Lib.hid (HB7.out.trans (hb1.mono HB7.out.size))
    have HR1 := Lib.hid hrd1
    have hbs := HB7.out.size
    have hrw : w.heap.size ≤ r := by omega
    clear hrd1 hb1
    go_wp2_with fail
    refine (rnew_ok w1 _ l (HSL.out.below HB1.out) (by omega)).mono ?_
    rintro e w2 ⟨q, rfl, hq2, hqat, hb2⟩
    have HB2 := Lib.hid (HB1.out.trans (hb2.mono HB1.out.size))
    have HR2 := Lib.hid (HR1.out.below hb2)
    have HQ2 := Lib.hid hqat
    have hrq : r ≠ q := by have := HR1.out.lt; omega
    have hqw : w.heap.size ≤ q := by have := HB1.out.size; omega
    clear hqat hb2 hr1 hq2 hbs HR1 HB1 HB7
    go_wp2_with fail
    refine (get_m w2 r l m HR2.out (by omega)).mono ?_
    rintro e w3 ⟨⟨x3, rfl⟩, hr3, ho3⟩
    rw [HP0.out] at hr3
    have HR3 := Lib.hid hr3
    have HQ3 := Lib.hid (HQ2.out.keep ho3 hrq.symm)
    have HB3 := Lib.hid (HB2.out.trans (ho3.below hrw HB2.out.size))
    clear hr3 ho3 HR2 HQ2 HB2
    go_wp2_with fail
    refine (rget_m w3 q l m HQ3.out (by omega)).mono ?_
    rintro e w4 ⟨⟨x4, rfl⟩, hq4, ho4⟩
    rw [HP0.out] at hq4
    have HQ4 := Lib.hid hq4
    have HR4 := Lib.hid (HR3.out.keep ho4 hrq HQ3.out.no_u8)
    have HB4 := Lib.hid (HB3.out.trans (ho4.below hqw HB3.out.size))
    clear hq4 ho4 HR3 HQ3 HB3
    go_wp2_with fail
    refine (H1a.out w4 r s HR4.out).mono ?_
    rintro e w5 ⟨vx, rfl, hx, hr5, ho5⟩
    have HR5 := Lib.hid hr5
    have HQ5 := Lib.hid (HQ4.out.keep ho5 hrq.symm)
    have HB5 := Lib.hid (HB4.out.trans (ho5.below hrw HB4.out.size))
    have HX5 := Lib.hid hx
    clear hx hr5 ho5 HR4 HQ4 HB4 H1a
    go_wp2_with fail
    refine (H1b.out w5 q HQ5.out).mono ?_
    rintro e w6 ⟨vy, rfl, hy, hq6, ho6⟩
    have HY6 := Lib.hid hy
    have HX6 := Lib.hid (HQ5.out.sl_any HX5.out ho6)
    have HQ6 := Lib.hid hq6
    have HR6 := Lib.hid (HR5.out.keep ho6 hrq HQ5.out.no_u8)
    have HB6 := Lib.hid (HB5.out.trans (ho6.below hqw HB5.out.size))
    clear hy hq6 ho6 HR5 HQ5 HB5 HX5 H1b
    go_wp2_with fail
    go_cut [87] from 87 (fun v wr => v = .bool false ∧ Go.RowKit.Hid (Below w.heap.size w wr))
    case first =>
      by_cases he : E1 = 0
      · subst he
        obtain rfl := H1p.out rfl
        have HRD : Go.RowKit.Hid (RdAt (World.drew w6) r s l p1) := Lib.hid (HR6.out.below ((Still.refl w6).drew.below _))
        have HQD := Lib.hid (HQ6.out.below ((Still.refl w6).drew.below _))
        have HQP : Go.RowKit.Hid ((World.drew w6).cell? ⟨q, 1, none⟩ = some (.int .i64 p1)) := Lib.hid HQD.out.pos
        have HSX : Go.RowKit.Hid (SlAt (World.drew w6) vx lx) := Lib.hid (HX6.out.below ((Still.refl w6).drew.below _))
        have HSY : Go.RowKit.Hid (SlAt (World.drew w6) vy lx) := Lib.hid (HY6.out.below ((Still.refl w6).drew.below _))
        have HB7 := Lib.hid HB6.out.drew
        clear HR6 HQ6 HQD HB6 HX6 HY6
        go_wp2_with fail
        go_region_held3 (fun w' => w'.cell? ⟨q, 1, none⟩ = some (.int .i64 p1)) (first | exact HQP.out) (first | (go_at_call 12; refine (stsame_yes _ _ _ lx HSX.out HSY.out).mono ?_; rintro e w8 ⟨rfl, rfl⟩) | (go_at_call 13; refine (pos_ok _ r l p1 HRD.out).mono ?_; rintro e w7 ⟨rfl, rfl⟩))
        go_wp2_with fail
        go_meet
        exact ⟨rfl, HB7⟩
      · obtain ⟨n1, n2⟩ := ne_facts he
        clear he
        have HQS := Lib.hid (fun n => same_quiet w6 n vx vy lx HX6.out HY6.out)
        clear HR6 HQ6 HX6 HY6
        go_wp2_with fail
        go_quiet (first | (go_at_call 12; exact HQS.out _))
        go_wp2_with fail
        go_meet
        exact ⟨rfl, Lib.hid (HB6.out.trans ((drewN_still w6 _).below _))⟩
    case rest =>
      obtain ⟨rfl, HB7⟩ := hcut
      clear HX6 HY6 HQ6 HR6 HB6
      generalize wc = wd at *
      go_wp2_with fail
      refine (new_ok wd _ l (HSL.out.below HB7.out) (by omega)).mono ?_
      rintro e w1 ⟨s, r, rfl, hr1, hrd1, hb1⟩
      have HB1 := Lib.hid (HB7.out.trans (hb1.mono HB7.out.size))
      have HR1 := Lib.hid hrd1
      have hbs := HB7.out.size
      have hrw : w.heap.size ≤ r := by omega
      clear hrd1 hb1
      go_wp2_with fail
      refine (rnew_ok w1 _ l (HSL.out.below HB1.out) (by omega)).mono ?_
      rintro e w2 ⟨q, rfl, hq2, hqat, hb2⟩
      have HB2 := Lib.hid (HB1.out.trans (hb2.mono HB1.out.size))
      have HR2 := Lib.hid (HR1.out.below hb2)
      have HQ2 := Lib.hid hqat
      have hrq : r ≠ q := by have := HR1.out.lt; omega
      have hqw : w.heap.size ≤ q := by have := HB1.out.size; omega
      clear hqat hb2 hr1 hq2 hbs HR1 HB1 HB7
      go_wp2_with fail
      refine (get_m w2 r l m HR2.out (by omega)).mono ?_
      rintro e w3 ⟨⟨x3, rfl⟩, hr3, ho3⟩
      rw [HP0.out] at hr3
      have HR3 := Lib.hid hr3
      have HQ3 := Lib.hid (HQ2.out.keep ho3 hrq.symm)
      have HB3 := Lib.hid (HB2.out.trans (ho3.below hrw HB2.out.size))
      clear hr3 ho3 HR2 HQ2 HB2
      go_wp2_with fail
      refine (rget_m w3 q l m HQ3.out (by omega)).mono ?_
      rintro e w4 ⟨⟨x4, rfl⟩, hq4, ho4⟩
      rw [HP0.out] at hq4
      have HQ4 := Lib.hid hq4
      have HR4 := Lib.hid (HR3.out.keep ho4 hrq HQ3.out.no_u8)
      have HB4 := Lib.hid (HB3.out.trans (ho4.below hqw HB3.out.size))
      clear hq4 ho4 HR3 HQ3 HB3
      go_wp2_with fail
      refine (H2a.out w4 r s HR4.out).mono ?_
      rintro e w5 ⟨rfl, hr5, ho5⟩
      have HR5 := Lib.hid hr5
      have HQ5 := Lib.hid (HQ4.out.keep ho5 hrq.symm)
      have HB5 := Lib.hid (HB4.out.trans (ho5.below hrw HB4.out.size))
      clear hr5 ho5 HR4 HQ4 HB4 H2a
      go_wp2_with fail
      refine (H2b.out w5 q HQ5.out).mono ?_
      rintro e w6 ⟨rfl, hq6, ho6⟩
      have HQ6 := Lib.hid hq6
      have HR6 := Lib.hid (HR5.out.keep ho6 hrq HQ5.out.no_u8)
      have HB6 := Lib.hid (HB5.out.trans (ho6.below hqw HB5.out.size))
      clear hq6 ho6 HR5 HQ5 HB5 H2b
      go_wp2_with fail
      go_cut [136] from 136 (fun v wr => v = .bool false ∧ Go.RowKit.Hid (Below w.heap.size w wr))
      case first =>
        by_cases he : E2 = 0
        · subst he
          obtain rfl := H2p.out rfl
          have HRD : Go.RowKit.Hid (RdAt (World.drew w6) r s l p2) := Lib.hid (HR6.out.below ((Still.refl w6).drew.below _))
          have HQD := Lib.hid (HQ6.out.below ((Still.refl w6).drew.below _))
          have HQP : Go.RowKit.Hid ((World.drew w6).cell? ⟨q, 1, none⟩ = some (.int .i64 p2)) := Lib.hid HQD.out.pos
          have HB7 := Lib.hid HB6.out.drew
          clear HR6 HQ6 HQD HB6
          go_wp2_with fail
          go_region_held3 (fun w' => w'.cell? ⟨q, 1, none⟩ = some (.int .i64 p2)) (first | exact HQP.out) (first | (go_at_call 13; refine (pos_ok _ r l p2 HRD.out).mono ?_; rintro e w7 ⟨rfl, rfl⟩))
          go_wp2_with fail
          go_meet
          exact ⟨rfl, HB7⟩
        · obtain ⟨n1, n2⟩ := ne_facts he
          clear he
          have HB7 := Lib.hid HB6.out.drew
          clear HR6 HQ6 HB6
          go_wp2_with fail
          go_region
          go_wp2_with fail
          go_meet
          exact ⟨rfl, HB7⟩
      case rest =>
        obtain ⟨rfl, HB7⟩ := hcut
        clear HQ6 HR6 HB6
        generalize wc = wd at *
        by_cases h1 : fr.size = 1
        · have t1 : ((fr.size : Int) == 1) = true := by rw [h1]; rfl
          have t1n : decide (fr.size = 1) = true := decide_eq_true h1
          by_cases h3 : hi < 0
          · have t2 : decide (hi < (0 : Int)) = true := decide_eq_true h3
            clear h1 h3 HT
            go_wp2_with fail
            go_ret
            exact ⟨rfl, HB7.out⟩
          have t2 : decide (hi < (0 : Int)) = false := decide_eq_false h3
          by_cases h4 : 2000 < hi
          · have t3 : decide ((2000 : Int) < hi) = true := decide_eq_true h4
            clear h1 h3 h4 HT
            go_wp2_with fail
            go_ret
            exact ⟨rfl, HB7.out⟩
          have t3 : decide ((2000 : Int) < hi) = false := decide_eq_false h4
          obtain ⟨E3, S3, p3, p3', h3p, h3a, h3b⟩ := HT.out (.inr ⟨by omega, by omega⟩)
          have H3p := Lib.hid h3p
          have H3a := Lib.hid h3a
          have H3b := Lib.hid h3b
          clear h3p h3a h3b HT h1
          go_wp2_with fail
          refine (new_ok wd _ l (HSL.out.below HB7.out) (by omega)).mono ?_
          rintro e w1 ⟨s, r, rfl, hr1, hrd1, hb1⟩
          have HB1 := Lib.hid (HB7.out.trans (hb1.mono HB7.out.size))
          have HR1 := Lib.hid hrd1
          have hbs := HB7.out.size
          have hrw : w.heap.size ≤ r := by omega
          clear hrd1 hb1
          go_wp2_with fail
          refine (rnew_ok w1 _ l (HSL.out.below HB1.out) (by omega)).mono ?_
          rintro e w2 ⟨q, rfl, hq2, hqat, hb2⟩
          have HB2 := Lib.hid (HB1.out.trans (hb2.mono HB1.out.size))
          have HR2 := Lib.hid (HR1.out.below hb2)
          have HQ2 := Lib.hid hqat
          have hrq : r ≠ q := by have := HR1.out.lt; omega
          have hqw : w.heap.size ≤ q := by have := HB1.out.size; omega
          clear hqat hb2 hr1 hq2 hbs HR1 HB1 HB7
          go_wp2_with fail
          refine (get_m w2 r l m HR2.out (by omega)).mono ?_
          rintro e w3 ⟨⟨x3, rfl⟩, hr3, ho3⟩
          rw [HP0.out] at hr3
          have HR3 := Lib.hid hr3
          have HQ3 := Lib.hid (HQ2.out.keep ho3 hrq.symm)
          have HB3 := Lib.hid (HB2.out.trans (ho3.below hrw HB2.out.size))
          clear hr3 ho3 HR2 HQ2 HB2
          go_wp2_with fail
          refine (rget_m w3 q l m HQ3.out (by omega)).mono ?_
          rintro e w4 ⟨⟨x4, rfl⟩, hq4, ho4⟩
          rw [HP0.out] at hq4
          have HQ4 := Lib.hid hq4
          have HR4 := Lib.hid (HR3.out.keep ho4 hrq HQ3.out.no_u8)
          have HB4 := Lib.hid (HB3.out.trans (ho4.below hqw HB3.out.size))
          clear hq4 ho4 HR3 HQ3 HB3
          go_wp2_with fail
          refine (H3a.out w4 r s HR4.out).mono ?_
          rintro e w5 ⟨rfl, hr5, ho5⟩
          have HR5 := Lib.hid hr5
          have HQ5 := Lib.hid (HQ4.out.keep ho5 hrq.symm)
          have HB5 := Lib.hid (HB4.out.trans (ho5.below hrw HB4.out.size))
          clear hr5 ho5 HR4 HQ4 HB4 H3a
          go_wp2_with fail
          refine (H3b.out w5 q HQ5.out).mono ?_
          rintro e w6 ⟨rfl, hq6, ho6⟩
          have HQ6 := Lib.hid hq6
          have HR6 := Lib.hid (HR5.out.keep ho6 hrq HQ5.out.no_u8)
          have HB6 := Lib.hid (HB5.out.trans (ho6.below hqw HB5.out.size))
          clear hq6 ho6 HR5 HQ5 HB5 H3b
          go_wp2_with fail
          go_cut [12] from 179 (fun v wr => v = .bool true ∧ Go.RowKit.Hid (Below w.heap.size w wr))
          case first =>
            by_cases he : E3 = 0
            · subst he
              obtain rfl := H3p.out rfl
              have HRD : Go.RowKit.Hid (RdAt (World.drew w6) r s l p3) := Lib.hid (HR6.out.below ((Still.refl w6).drew.below _))
              have HQD := Lib.hid (HQ6.out.below ((Still.refl w6).drew.below _))
              have HQP : Go.RowKit.Hid ((World.drew w6).cell? ⟨q, 1, none⟩ = some (.int .i64 p3)) := Lib.hid HQD.out.pos
              have HB7 := Lib.hid HB6.out.drew
              clear HR6 HQ6 HQD HB6
              go_wp2_with fail
              go_region_held3 (fun w' => w'.cell? ⟨q, 1, none⟩ = some (.int .i64 p3)) (first | exact HQP.out) (first | (go_at_call 13; refine (pos_ok _ r l p3 HRD.out).mono ?_; rintro e w7 ⟨rfl, rfl⟩))
              go_wp2_with fail
              go_meet
              exact ⟨rfl, HB7⟩
            · obtain ⟨n1, n2⟩ := ne_facts he
              clear he
              have HB7 := Lib.hid HB6.out.drew
              clear HR6 HQ6 HB6
              go_wp2_with fail
              go_region
              go_wp2_with fail
              go_meet
              exact ⟨rfl, HB7⟩
          case rest =>
            obtain ⟨rfl, HB7⟩ := hcut
            clear HQ6 HR6 HB6
            go_wp2_with fail
            go_ret
            exact ⟨rfl, HB7.out⟩
        · have t1 : ((fr.size : Int) == 1) = false := beq_false_of_ne (by omega)
          have t1n : decide (fr.size = 1) = false := decide_eq_false h1
          obtain ⟨E3, S3, p3, p3', h3p, h3a, h3b⟩ := HT.out (.inl h1)
          have H3p := Lib.hid h3p
          have H3a := Lib.hid h3a
          have H3b := Lib.hid h3b
          clear h3p h3a h3b HT h1
          go_wp2_with fail
          refine (new_ok wd _ l (HSL.out.below HB7.out) (by omega)).mono ?_
          rintro e w1 ⟨s, r, rfl, hr1, hrd1, hb1⟩
          have HB1 := Lib.hid (HB7.out.trans (hb1.mono HB7.out.size))
          have HR1 := Lib.hid hrd1
          have hbs := HB7.out.size
          have hrw : w.heap.size ≤ r := by omega
          clear hrd1 hb1
          go_wp2_with fail
          refine (rnew_ok w1 _ l (HSL.out.below HB1.out) (by omega)).mono ?_
          rintro e w2 ⟨q, rfl, hq2, hqat, hb2⟩
          have HB2 := Lib.hid (HB1.out.trans (hb2.mono HB1.out.size))
          have HR2 := Lib.hid (HR1.out.below hb2)
          have HQ2 := Lib.hid hqat
          have hrq : r ≠ q := by have := HR1.out.lt; omega
          have hqw : w.heap.size ≤ q := by have := HB1.out.size; omega
          clear hqat hb2 hr1 hq2 hbs HR1 HB1 HB7
          go_wp2_with fail
          refine (get_m w2 r l m HR2.out (by omega)).mono ?_
          rintro e w3 ⟨⟨x3, rfl⟩, hr3, ho3⟩
          rw [HP0.out] at hr3
          have HR3 := Lib.hid hr3
          have HQ3 := Lib.hid (HQ2.out.keep ho3 hrq.symm)
          have HB3 := Lib.hid (HB2.out.trans (ho3.below hrw HB2.out.size))
          clear hr3 ho3 HR2 HQ2 HB2
          go_wp2_with fail
          refine (rget_m w3 q l m HQ3.out (by omega)).mono ?_
          rintro e w4 ⟨⟨x4, rfl⟩, hq4, ho4⟩
          rw [HP0.out] at hq4
          have HQ4 := Lib.hid hq4
          have HR4 := Lib.hid (HR3.out.keep ho4 hrq HQ3.out.no_u8)
          have HB4 := Lib.hid (HB3.out.trans (ho4.below hqw HB3.out.size))
          clear hq4 ho4 HR3 HQ3 HB3
          go_wp2_with fail
          refine (H3a.out w4 r s HR4.out).mono ?_
          rintro e w5 ⟨rfl, hr5, ho5⟩
          have HR5 := Lib.hid hr5
          have HQ5 := Lib.hid (HQ4.out.keep ho5 hrq.symm)
          have HB5 := Lib.hid (HB4.out.trans (ho5.below hrw HB4.out.size))
          clear hr5 ho5 HR4 HQ4 HB4 H3a
          go_wp2_with fail
          refine (H3b.out w5 q HQ5.out).mono ?_
          rintro e w6 ⟨rfl, hq6, ho6⟩
          have HQ6 := Lib.hid hq6
          have HR6 := Lib.hid (HR5.out.keep ho6 hrq HQ5.out.no_u8)
          have HB6 := Lib.hid (HB5.out.trans (ho6.below hqw HB5.out.size))
          clear hq6 ho6 HR5 HQ5 HB5 H3b
          go_wp2_with fail
          go_cut [12] from 179 (fun v wr => v = .bool true ∧ Go.RowKit.Hid (Below w.heap.size w wr))
          case first =>
            by_cases he : E3 = 0
            · subst he
              obtain rfl := H3p.out rfl
              have HRD : Go.RowKit.Hid (RdAt (World.drew w6) r s l p3) := Lib.hid (HR6.out.below ((Still.refl w6).drew.below _))
              have HQD := Lib.hid (HQ6.out.below ((Still.refl w6).drew.below _))
              have HQP : Go.RowKit.Hid ((World.drew w6).cell? ⟨q, 1, none⟩ = some (.int .i64 p3)) := Lib.hid HQD.out.pos
              have HB7 := Lib.hid HB6.out.drew
              clear HR6 HQ6 HQD HB6
              go_wp2_with fail
              go_region_held3 (fun w' => w'.cell? ⟨q, 1, none⟩ = some (.int .i64 p3)) (first | exact HQP.out) (first | (go_at_call 13; refine (pos_ok _ r l p3 HRD.out).mono ?_; rintro e w7 ⟨rfl, rfl⟩))
              go_wp2_with fail
              go_meet
              exact ⟨rfl, HB7⟩
            · obtain ⟨n1, n2⟩ := ne_facts he
              clear he
              have HB7 := Lib.hid HB6.out.drew
              clear HR6 HQ6 HB6
              go_wp2_with fail
              go_region
              go_wp2_with fail
              go_meet
              exact ⟨rfl, HB7⟩
          case rest =>
            obtain ⟨rfl, HB7⟩ := hcut
            clear HQ6 HR6 HB6
            go_wp2_with fail
            go_ret
            exact ⟨rfl, HB7.out⟩
theorem walk_long (w : World) (a0 : Option Addr) (len0 cap0 : Nat) (hin0 : (300 : Int) < (len0 : Int)) (k : Int) (al : Bool) (fr : ByteArray) (lo hi : Int) :
    Calls Tryz.prog 3 #[.slice a0 len0 cap0, .int .i64 k, .bool al, .string fr, .int .i64 lo, .int .i64 hi] w fun e w' => e = .returned (.bool true) ∧ Below w.heap.size w w' := by
  have hq0 : decide ((300 : Int) < (len0 : Int)) = true := decide_eq_true hin0
  clear hin0
  go_enter Tryz.func3, Tryz.ntmps3
  go_wp2_with fail
  refine (stawake _).mono ?_
  rintro e wa ⟨rfl, hb⟩
  have HB := Lib.hid hb
  clear hb
  go_wp2_with fail
  go_ret
  exact ⟨rfl, HB.out⟩
theorem walk_from (w : World) (a0 : Option Addr) (len0 cap0 : Nat) (hin0 : ¬ (300 : Int) < (len0 : Int)) (k : Int) (al : Bool) (fr : ByteArray) (hin1 : (300 : Int) < (fr.size : Int)) (lo hi : Int) :
    Calls Tryz.prog 3 #[.slice a0 len0 cap0, .int .i64 k, .bool al, .string fr, .int .i64 lo, .int .i64 hi] w fun e w' => e = .returned (.bool true) ∧ Below w.heap.size w w' := by
  have hq0 : decide ((300 : Int) < (len0 : Int)) = false := decide_eq_false hin0
  have hq1 : decide ((300 : Int) < (fr.size : Int)) = true := decide_eq_true hin1
  clear hin0 hin1
  go_enter Tryz.func3, Tryz.ntmps3
  go_wp2_with fail
  refine (stawake _).mono ?_
  rintro e wa ⟨rfl, hb⟩
  have HB := Lib.hid hb
  clear hb
  go_wp2_with fail
  go_ret
  exact ⟨rfl, HB.out⟩
theorem walk (w : World) (a0 : Option Addr) (len0 cap0 : Nat) (z0 : List Int) (w0 : IsRow .u8 w a0 len0 cap0 z0) (k : Int) (wk : (Lit.int .i64 k).wf = true) (al : Bool) (fr : ByteArray) (wf : fr.size ≤ maxLen) (lo : Int) (w2 : (Lit.int .i64 lo).wf = true) (hi : Int) (w3 : (Lit.int .i64 hi).wf = true) :
    Calls Tryz.prog 3 #[.slice a0 len0 cap0, .int .i64 k, .bool al, .string fr, .int .i64 lo, .int .i64 hi] w fun e w' => e = .returned (.bool true) ∧ Below w.heap.size w w' := by
  obtain ⟨l, hsl, hl⟩ := sl_of_isRow w0
  by_cases h : (300 : Int) < (len0 : Int)
  · exact walk_long w a0 len0 cap0 h k al fr lo hi
  · by_cases h1 : (300 : Int) < (fr.size : Int)
    · exact walk_from w a0 len0 cap0 h k al fr h1 lo hi
    · exact walk_main w a0 len0 cap0 l hsl hl h k al fr h1 lo hi (i64_bounds w2) (i64_bounds w3)

set_option maxRecDepth 100000 in
theorem lifted (os : Os) (started : os.Started) (H : Type) (enc : TypeId × Value → H) :
    ReturnsInHanded {} Tryz.checked os 3 .any (Rows.stringsGetsSpec.pre6 enc Tryz.prog Tryz.f3 Rows.stringsGetsRow.domain false) (Rows.stringsGetsSpec.post enc Tryz.prog Tryz.f3 false true false false) := by
  refine returnsInHanded_of_change (C := Tryz.checked) own started (by kernel_rfl) Tryz.func3
    (ChangeSpec.witness6 (enc := enc) (C := Tryz.checked) false ⟨#[], #[.slice none 0 0, .int .i64 0, .bool false, .string ByteArray.empty, .int .i64 0, .int .i64 0], []⟩ 8 (by kernel_rfl) (by kernel_rfl) (by kernel_rfl) (by kernel_rfl)) ?_
  intro W base args ds gs before hval0 hW hcnd _
  have hval : ∀ (j : Nat) t v, Tryz.f3.params[j]? = some t → args[j]? = some v → Value.okWide Tryz.prog W .any base t v := hval0
  have hW' := hW
  obtain ⟨p, q, hA0, hV, rfl, hfz, hnd⟩ := hW
  have hA : DataW.TrodAll enc Tryz.prog W 0 (fun _ => true) true Tryz.f3.params.toList args.toList ds p := hA0
  rw [Tryz.params3] at hA hval
  obtain ⟨v0, vs0, d0, ds0, p0, q0, hargs, rfl, rfl, h0, r0⟩ := trodAll_cons hA
  obtain ⟨v1, vs1, d1, ds1, p1, q1, rfl, rfl, rfl, h1, r1⟩ := trodAll_cons r0
  obtain ⟨v2, vs2, d2, ds2, p2, q2, rfl, rfl, rfl, h2, r2⟩ := trodAll_cons r1
  obtain ⟨v3, vs3, d3, ds3, p3, q3, rfl, rfl, rfl, h3, r3⟩ := trodAll_cons r2
  obtain ⟨v4, vs4, d4, ds4, p4, q4, rfl, rfl, rfl, h4, r4⟩ := trodAll_cons r3
  obtain ⟨v5, vs5, d5, ds5, p5, q5, rfl, rfl, rfl, h5, r5⟩ := trodAll_cons r4
  obtain ⟨rfl, rfl, rfl⟩ := trodAll_nil r5
  obtain rfl : args = #[v0, v1, v2, v3, v4, v5] := by cases args; simp_all
  obtain ⟨rfl, rfl⟩ := trodVars_none hV
  obtain ⟨a0, len0, cap0, rfl⟩ := okWide_slice Tryz.underlying22 (hval 0 22 v0 rfl rfl)
  have k0 := h0
  have lt0 : ∀ x ∈ p0, x.block < W.heap.size := by obtain ⟨m, hm⟩ := k0; exact DataW.trod_lt m _ _ _ hm
  obtain ⟨z0, w0⟩ : ∃ zs, IsRow .u8 W a0 len0 cap0 zs := by
    obtain ⟨fuel, hf⟩ := h0
    rcases open_ints Tryz.underlying22 Tryz.underlying5 (by kernel_rfl) hf with ⟨hcs, _⟩ | ⟨x, l, c, zs, hcs, _, hl, hm, hz, _, hcell, hwz⟩
    · simp [Value.cells] at hcs
      obtain ⟨rfl, rfl, rfl⟩ := hcs
      exact ⟨[], .inl ⟨rfl, rfl, rfl, rfl⟩⟩
    · simp [Value.cells] at hcs
      obtain ⟨rfl, rfl, rfl⟩ := hcs
      exact ⟨zs, .inr ⟨_, rfl, hl, hm, by simpa using hz, hcell, hwz⟩⟩
  obtain ⟨a1, rfl, rfl, rfl, w1⟩ := open_int Tryz.underlying3 (hval 1 3 v1 rfl rfl) h1
  obtain ⟨a2, rfl, rfl, rfl⟩ := open_bool Tryz.underlying4 (hval 2 4 v2 rfl rfl) h2
  obtain ⟨a3, rfl, rfl, rfl, w3⟩ := open_string Tryz.underlying9 (hval 3 9 v3 rfl rfl) h3
  obtain ⟨a4, rfl, rfl, rfl, w4⟩ := open_int Tryz.underlying3 (hval 4 3 v4 rfl rfl) h4
  obtain ⟨a5, rfl, rfl, rfl, w5⟩ := open_int Tryz.underlying3 (hval 5 3 v5 rfl rfl) h5
  clear hA0 hval0
  refine (walk W a0 len0 cap0 z0 w0 a1 w1 a2 a3 w3 a4 w4 a5 w5).mono fun e W' ⟨he, bel⟩ => ?_
  subst he
  exact ⟨_, rfl, _, _, _, [], _, [], hW', trodAll_mk1 (shut_bool Tryz.underlying4 _), (trodAll_cons_mk (Below.trod laidOut (by kernel_rfl) (of_decide_eq_true (by kernel_rfl)) k0 bel lt0) (trodAll_cons_mk (shut_int Tryz.underlying3 w1) (trodAll_cons_mk (shut_bool Tryz.underlying4 a2) (trodAll_cons_mk (shut_string Tryz.underlying9 w3) (trodAll_cons_mk (shut_int Tryz.underlying3 w4) (trodAll_cons_mk (shut_int Tryz.underlying3 w5) trodAll_mk0)))))), rfl, bel.frame _, fun h => by cases h⟩

theorem over : Rows.stringsGetsRow.holds Tryz.pinned (OpenSpec.ofChange Rows.stringsGetsSpec) :=
  OpenClaim.holds_of_wide 3 Tryz.f3 rfl rfl rfl rfl rfl rfl rfl ⟨rfl, rfl, rfl, rfl, rfl⟩ rfl rfl rfl rfl rfl (by kernel_rfl) Tryz.func3 (by kernel_rfl)
    (of_decide_eq_true (by kernel_rfl)) (by unfold Func.isWrapper; first | (rw [if_pos (by decide +kernel)]; kernel_rfl) | (rw [if_neg (by decide +kernel)]; exact ⟨rfl, rfl⟩))
    (fun os started H enc _ => lifted os started H enc)

theorem proved : Rows.StringsGetsSaid := over
end Go.Proofs.YtbpfggkpfaobhaaGreat.stringsGets
