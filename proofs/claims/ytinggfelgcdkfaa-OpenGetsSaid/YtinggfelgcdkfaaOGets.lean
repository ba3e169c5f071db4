/-
  Proved: the statement OpenGets (which number, with a bound and without, and which octets any bits are, from any place on, or why none, is what the document says), for every input; no further condition.
-/
import Derived.Test.YtinggfelgcdkfaaRows
import Derived.Test.YtinggfelgcdkfaaOpLaw
import Derived.Test.YtinggfelgcdkfaaOpRG
import Derived.Deep.QuietTactic
import Derived.Deep.RegionHeld3
import Derived.ProofKit
import Derived.OpenShut
import Derived.ShutString
import Derived.ChangeOld
namespace Go.Proofs.Ytinggfelgcdkfaa.openGets
open Go.ChangeShapes Go.WideShapes Go.ChangeAt Go.RowKit
open Go.ChangeMaps (open_string shut_string)
set_option linter.unusedVariables false
set_option linter.unusedSimpArgs false
set_option maxRecDepth 100000

theorem own : ownKnob Try.prog.godebug = none := by kernel_rfl
theorem laidOut : laidOutB Try.prog = true := by kernel_rfl

theorem drewN_still (w : World) : ∀ n, Still w (w.drewN n)
  | 0 => Still.refl w
  | n + 1 => (drewN_still w n).drew
theorem same_quiet (w : World) (n : Nat) (x y : Value) (l : List Nat) (hx : SlAt w x l) (hy : SlAt w y l) :
    Calls Try.prog 15 #[x, y] (w.drewN n) fun e w' => e = .returned (.bool true) ∧ ∃ m, w' = w.drewN m := by
  refine Calls.quiet_of_same ((opsame_yes _ _ _ l (hx.below ((drewN_still w n).below _)) (hy.below ((drewN_still w n).below _))).mono ?_)
  rintro e w8 ⟨rfl, rfl⟩
  exact ⟨rfl, rfl⟩
theorem get_m (w : World) (b : Nat) {s : Value} (L : List Nat) (m : Nat) (h : RdAt w b s L 0) (hL : L.length ≤ 10000000000) :
    Calls Try.prog 24 #[.pointer (some ⟨b, 0, none⟩), .int .i64 m] w fun e w' => (∃ x : Value, e = .returned x) ∧ RdAt w' b s L (gpos L 0 m) ∧ Only b w w' :=
  (get_any w b L 0 m h hL).mono fun e w' ⟨h1, h2, h3⟩ => ⟨⟨_, h1⟩, h2, h3⟩
theorem rget_m (w : World) (b : Nat) (L : List Nat) (m : Nat) (h : QAt w b (bitsOf L) 0) (hL : L.length ≤ 1000000000) :
    Calls Try.prog 25 #[.pointer (some ⟨b, 0, none⟩), .int .i64 m] w fun e w' => (∃ x : Value, e = .returned x) ∧ QAt w' b (bitsOf L) (gpos L 0 m) ∧ Only b w w' :=
  (rget_any w b L 0 m h hL).mono fun e w' ⟨h1, h2, h3⟩ => ⟨⟨_, h1⟩, h2, h3⟩
set_option maxHeartbeats 32000000 in
set_option maxRecDepth 100000 in
theorem walk_main (w : World) (a0 : Option Addr) (len0 cap0 : Nat) (l : List Nat) (hsl : SlAt w (.slice a0 len0 cap0) l) (hl : l.length = len0) (hin0 : ¬ (200 : Int) < (len0 : Int)) (k : Int) (al : Bool) (lo : Int) (b2 : -9223372036854775808 ≤ lo ∧ lo ≤ 9223372036854775807) :
    Calls Try.prog 4 #[.slice a0 len0 cap0, .int .i64 k, .bool al, .int .i64 lo] w fun e w' => e = .returned (.bool true) ∧ Below w.heap.size w w' := by
  have HSL := Lib.hid hsl
  have hl8 : l.length ≤ 200 := by omega
  have hq0 : decide ((200 : Int) < (len0 : Int)) = false := decide_eq_false hin0
  obtain ⟨m, hm⟩ : ∃ m : Nat, (m : Int) = k % 8 := ⟨(k % 8).toNat, by omega⟩
  have hk := i64_and7 k
  rw [← hm] at hk
  clear hsl hl hm hin0
  go_enter Try.func4, Try.ntmps4
  go_wp2_with fail
  refine (opawake _).mono ?_
  rintro e wa ⟨rfl, hb⟩
  have HB := Lib.hid hb
  clear hb
  go_wp2_with fail
  refine (new_ok wa _ l (HSL.out.below HB.out) (by omega)).mono ?_
  rintro e w1 ⟨s, r, rfl, hr1, hrd1, hb1⟩
  have HB1 := Lib.hid (HB.out.trans (hb1.mono HB.out.size))
  have HR1 := Lib.hid hrd1
  have hbs := HB.out.size
  have hrw : w.heap.size ≤ r := by omega
  clear hrd1 hb1
  go_wp2_with fail
  refine (rnew_ok w1 _ l (HSL.out.below HB1.out) (by omega)).mono ?_
  rintro e w2 ⟨q, rfl, hq2, hqat, hb2⟩
  have HB2 := Lib.hid (HB1.out.trans (hb2.mono HB1.out.size))
  have HR2 := Lib.hid (HR1.out.below hb2)
  have HQ2 := Lib.hid hqat
  have hrq : r ≠ q := by have := HR1.out.lt; omega
  have hqw : w.heap.size ≤ q := by have := HB1.out.size; omega
  clear hqat hb2 hr1 hq2 hbs HR1 HB1 HB
  go_wp2_with fail
  refine (get_m w2 r l m HR2.out (by omega)).mono ?_
  rintro e w3 ⟨⟨x3, rfl⟩, hr3, ho3⟩
  have HR3 := Lib.hid hr3
  have HQ3 := Lib.hid (HQ2.out.keep ho3 hrq.symm)
  have HB3 := Lib.hid (HB2.out.trans (ho3.below hrw HB2.out.size))
  clear hr3 ho3 HR2 HQ2 HB2
  go_wp2_with fail
  refine (rget_m w3 q l m HQ3.out (by omega)).mono ?_
  rintro e w4 ⟨⟨x4, rfl⟩, hq4, ho4⟩
  have HQ4 := Lib.hid hq4
  have HR4 := Lib.hid (HR3.out.keep ho4 hrq HQ3.out.no_u8)
  have HB4 := Lib.hid (HB3.out.trans (ho4.below hqw HB3.out.size))
  clear hq4 ho4 HR3 HQ3 HB3
  generalize gpos l 0 m = p at *
  go_wp2_with fail
  refine (oget_semi w4 r l p al lo HR4.out (by omega) b2.1 b2.2).mono ?_
  rintro e w5 ⟨rfl, hr5, ho5⟩
  have HR5 := Lib.hid hr5
  have HQ5 := Lib.hid (HQ4.out.keep ho5 hrq.symm)
  have HB5 := Lib.hid (HB4.out.trans (ho5.below hrw HB4.out.size))
  clear hr5 ho5 HR4 HQ4 HB4
  go_wp2_with fail
  refine (rget_semi w5 q l p al lo HQ5.out (by omega) b2.1 b2.2).mono ?_
  rintro e w6 ⟨rfl, hq6, ho6⟩
  have HQ6 := Lib.hid hq6
  have HR6 := Lib.hid (HR5.out.keep ho6 hrq HQ5.out.no_u8)
  have HB6 := Lib.hid (HB5.out.trans (ho6.below hqw HB5.out.size))
  clear hq6 ho6 HR5 HQ5 HB5
  generalize semiR (rdTak l (rlF al l p)) lo = o at *
  obtain ⟨er, n, p2⟩ := o
  have HRD := Lib.hid (HR6.out.below ((Still.refl w6).drew.below _))
  have HQD := Lib.hid (HQ6.out.below ((Still.refl w6).drew.below _))
  have HQP : Go.RowKit.Hid ((World.drew w6).cell? ⟨q, 1, none⟩ = some (.int .i64 p2)) := Lib.hid HQD.out.pos
  have HRD : Go.RowKit.Hid (RdAt (World.drew w6) r s l p2) := HRD
  have HB7 := Lib.hid HB6.out.drew
  clear HB6 HR6 HQ6 HQD
  by_cases he : er = 0
  · subst he
    go_wp2_with fail
    go_region_held3 (fun w' => w'.cell? ⟨q, 1, none⟩ = some (.int .i64 p2)) (first | exact HQP.out) (first | (go_at_call 28; refine (pos_ok _ r l p2 HRD.out).mono ?_; rintro e w7 ⟨rfl, rfl⟩))
    go_wp2_with fail
    clear HRD HQP
    generalize hdw : World.drew w6 = wd at *
    clear hdw
    refine (new_ok wd _ l (HSL.out.below HB7.out) (by omega)).mono ?_
    rintro e w1 ⟨s, r, rfl, hr1, hrd1, hb1⟩
    have HB1 := Lib.hid (HB7.out.trans (hb1.mono HB7.out.size))
    have HR1 := Lib.hid hrd1
    have hbs := HB7.out.size
    have hrw : w.heap.size ≤ r := by omega
    clear hrd1 hb1
    go_wp2_with fail
    refine (rnew_ok w1 _ l (HSL.out.below HB1.out) (by omega)).mono ?_
    rintro e w2 ⟨q, rfl, hq2, hqat, hb2⟩
    have HB2 := Lib.hid (HB1.out.trans (hb2.mono HB1.out.size))
    have HR2 := Lib.hid (HR1.out.below hb2)
    have HQ2 := Lib.hid hqat
    have hrq : r ≠ q := by have := HR1.out.lt; omega
    have hqw : w.heap.size ≤ q := by have := HB1.out.size; omega
    clear hqat hb2 hr1 hq2 hbs HR1 HB1 HB7
    go_wp2_with fail
    refine (get_m w2 r l m HR2.out (by omega)).mono ?_
    rintro e w3 ⟨⟨x3, rfl⟩, hr3, ho3⟩
    have HR3 := Lib.hid hr3
    have HQ3 := Lib.hid (HQ2.out.keep ho3 hrq.symm)
    have HB3 := Lib.hid (HB2.out.trans (ho3.below hrw HB2.out.size))
    clear hr3 ho3 HR2 HQ2 HB2
    go_wp2_with fail
    refine (rget_m w3 q l m HQ3.out (by omega)).mono ?_
    rintro e w4 ⟨⟨x4, rfl⟩, hq4, ho4⟩
    have HQ4 := Lib.hid hq4
    have HR4 := Lib.hid (HR3.out.keep ho4 hrq HQ3.out.no_u8)
    have HB4 := Lib.hid (HB3.out.trans (ho4.below hqw HB3.out.size))
    clear hq4 ho4 HR3 HQ3 HB3
    generalize gpos l 0 m = p at *
    go_wp2_with fail
    refine (oget_any w4 r l p al HR4.out (by omega)).mono ?_
    rintro e w5 ⟨rfl, hr5, ho5⟩
    have HR5 := Lib.hid hr5
    have HQ5 := Lib.hid (HQ4.out.keep ho5 hrq.symm)
    have HB5 := Lib.hid (HB4.out.trans (ho5.below hrw HB4.out.size))
    clear hr5 ho5 HR4 HQ4 HB4
    go_wp2_with fail
    refine (rget_any_int w5 q l p al HQ5.out (by omega)).mono ?_
    rintro e w6 ⟨rfl, hq6, ho6⟩
    have HQ6 := Lib.hid hq6
    have HR6 := Lib.hid (HR5.out.keep ho6 hrq HQ5.out.no_u8)
    have HB6 := Lib.hid (HB5.out.trans (ho6.below hqw HB5.out.size))
    clear hq6 ho6 HR5 HQ5 HB5
    generalize anyR (rdTak l (rlF al l p)) = o at *
    obtain ⟨er, n, p2⟩ := o
    have HRD := Lib.hid (HR6.out.below ((Still.refl w6).drew.below _))
    have HQD := Lib.hid (HQ6.out.below ((Still.refl w6).drew.below _))
    have HQP : Go.RowKit.Hid ((World.drew w6).cell? ⟨q, 1, none⟩ = some (.int .i64 p2)) := Lib.hid HQD.out.pos
    have HRD : Go.RowKit.Hid (RdAt (World.drew w6) r s l p2) := HRD
    have HB7 := Lib.hid HB6.out.drew
    clear HB6 HR6 HQ6 HQD
    by_cases he : er = 0
    · subst he
      go_wp2_with fail
      go_region_held3 (fun w' => w'.cell? ⟨q, 1, none⟩ = some (.int .i64 p2)) (first | exact HQP.out) (first | (go_at_call 28; refine (pos_ok _ r l p2 HRD.out).mono ?_; rintro e w7 ⟨rfl, rfl⟩))
      go_wp2_with fail
      clear HRD HQP
      generalize hdw : World.drew w6 = wd at *
      clear hdw
      refine (new_ok wd _ l (HSL.out.below HB7.out) (by omega)).mono ?_
      rintro e w1 ⟨s, r, rfl, hr1, hrd1, hb1⟩
      have HB1 := Lib.hid (HB7.out.trans (hb1.mono HB7.out.size))
      have HR1 := Lib.hid hrd1
      have hbs := HB7.out.size
      have hrw : w.heap.size ≤ r := by omega
      clear hrd1 hb1
      go_wp2_with fail
      refine (rnew_ok w1 _ l (HSL.out.below HB1.out) (by omega)).mono ?_
      rintro e w2 ⟨q, rfl, hq2, hqat, hb2⟩
      have HB2 := Lib.hid (HB1.out.trans (hb2.mono HB1.out.size))
      have HR2 := Lib.hid (HR1.out.below hb2)
      have HQ2 := Lib.hid hqat
      have hrq : r ≠ q := by have := HR1.out.lt; omega
      have hqw : w.heap.size ≤ q := by have := HB1.out.size; omega
      clear hqat hb2 hr1 hq2 hbs HR1 HB1 HB7
      go_wp2_with fail
      refine (get_m w2 r l m HR2.out (by omega)).mono ?_
      rintro e w3 ⟨⟨x3, rfl⟩, hr3, ho3⟩
      have HR3 := Lib.hid hr3
      have HQ3 := Lib.hid (HQ2.out.keep ho3 hrq.symm)
      have HB3 := Lib.hid (HB2.out.trans (ho3.below hrw HB2.out.size))
      clear hr3 ho3 HR2 HQ2 HB2
      go_wp2_with fail
      refine (rget_m w3 q l m HQ3.out (by omega)).mono ?_
      rintro e w4 ⟨⟨x4, rfl⟩, hq4, ho4⟩
      have HQ4 := Lib.hid hq4
      have HR4 := Lib.hid (HR3.out.keep ho4 hrq HQ3.out.no_u8)
      have HB4 := Lib.hid (HB3.out.trans (ho4.below hqw HB3.out.size))
      clear hq4 ho4 HR3 HQ3 HB3
      generalize gpos l 0 m = p at *
      go_wp2_with fail
      refine (oget_open w4 r s l p al HR4.out (by omega)).mono ?_
      rintro e w5 ⟨vx, rfl, hx, hr5, ho5⟩
      have HX5 := Lib.hid hx
      have HR5 := Lib.hid hr5
      have HQ5 := Lib.hid (HQ4.out.keep ho5 hrq.symm)
      have HB5 := Lib.hid (HB4.out.trans (ho5.below hrw HB4.out.size))
      clear hx hr5 ho5 HR4 HQ4 HB4
      go_wp2_with fail
      refine (rget_open w5 q l p al HQ5.out (by omega)).mono ?_
      rintro e w6 ⟨vy, rfl, hy, hq6, ho6⟩
      have HY6 := Lib.hid hy
      have HX6 := Lib.hid (HQ5.out.sl_any HX5.out ho6)
      have HQ6 := Lib.hid hq6
      have HR6 := Lib.hid (HR5.out.keep ho6 hrq HQ5.out.no_u8)
      have HB6 := Lib.hid (HB5.out.trans (ho6.below hqw HB5.out.size))
      clear hy hq6 ho6 HR5 HQ5 HB5 HX5
      generalize rdOpen al l p = o at *
      obtain ⟨er, lx, p2⟩ := o
      have HRD : Go.RowKit.Hid (RdAt (World.drew w6) r s l p2) := Lib.hid (HR6.out.below ((Still.refl w6).drew.below _))
      have HQD := Lib.hid (HQ6.out.below ((Still.refl w6).drew.below _))
      have HQP : Go.RowKit.Hid ((World.drew w6).cell? ⟨q, 1, none⟩ = some (.int .i64 p2)) := Lib.hid HQD.out.pos
      have HSX : Go.RowKit.Hid (SlAt (World.drew w6) vx lx) := Lib.hid (HX6.out.below ((Still.refl w6).drew.below _))
      have HSY : Go.RowKit.Hid (SlAt (World.drew w6) vy lx) := Lib.hid (HY6.out.below ((Still.refl w6).drew.below _))
      have HB7 := Lib.hid HB6.out.drew
      clear HR6 HQ6 HQD
      by_cases he : er = 0
      · subst he
        clear HB6 HX6 HY6
        go_wp2_with fail
        go_region_held3 (fun w' => w'.cell? ⟨q, 1, none⟩ = some (.int .i64 p2)) (first | exact HQP.out) (first | (go_at_call 15; refine (opsame_yes _ _ _ lx HSX.out HSY.out).mono ?_; rintro e w8 ⟨rfl, rfl⟩) | (go_at_call 28; refine (pos_ok _ r l p2 HRD.out).mono ?_; rintro e w7 ⟨rfl, rfl⟩))
        go_wp2_with fail
        go_ret
        exact ⟨rfl, HB7.out⟩
      · obtain ⟨n1, n2⟩ := ne_facts he
        clear he
        have HQS := Lib.hid (fun n => same_quiet w6 n vx vy lx HX6.out HY6.out)
        go_wp2_with fail
        go_quiet (first | (go_at_call 15; exact HQS.out _))
        go_wp2_with fail
        go_ret
        exact ⟨rfl, HB6.out.trans ((drewN_still w6 _).below _)⟩
    · obtain ⟨n1, n2⟩ := ne_facts he
      clear he
      go_wp2_with fail
      go_region
      go_wp2_with fail
      clear HRD HQP
      generalize hdw : World.drew w6 = wd at *
      clear hdw
      refine (new_ok wd _ l (HSL.out.below HB7.out) (by omega)).mono ?_
      rintro e w1 ⟨s, r, rfl, hr1, hrd1, hb1⟩
      have HB1 := Lib.hid (HB7.out.trans (hb1.mono HB7.out.size))
      have HR1 := Lib.hid hrd1
      have hbs := HB7.out.size
      have hrw : w.heap.size ≤ r := by omega
      clear hrd1 hb1
      go_wp2_with fail
      refine (rnew_ok w1 _ l (HSL.out.below HB1.out) (by omega)).mono ?_
      rintro e w2 ⟨q, rfl, hq2, hqat, hb2⟩
      have HB2 := Lib.hid (HB1.out.trans (hb2.mono HB1.out.size))
      have HR2 := Lib.hid (HR1.out.below hb2)
      have HQ2 := Lib.hid hqat
      have hrq : r ≠ q := by have := HR1.out.lt; omega
      have hqw : w.heap.size ≤ q := by have := HB1.out.size; omega
      clear hqat hb2 hr1 hq2 hbs HR1 HB1 HB7
      go_wp2_with fail
      refine (get_m w2 r l m HR2.out (by omega)).mono ?_
      rintro e w3 ⟨⟨x3, rfl⟩, hr3, ho3⟩
      have HR3 := Lib.hid hr3
      have HQ3 := Lib.hid (HQ2.out.keep ho3 hrq.symm)
      have HB3 := Lib.hid (HB2.out.trans (ho3.below hrw HB2.out.size))
      clear hr3 ho3 HR2 HQ2 HB2
      go_wp2_with fail
      refine (rget_m w3 q l m HQ3.out (by omega)).mono ?_
      rintro e w4 ⟨⟨x4, rfl⟩, hq4, ho4⟩
      have HQ4 := Lib.hid hq4
      have HR4 := Lib.hid (HR3.out.keep ho4 hrq HQ3.out.no_u8)
      have HB4 := Lib.hid (HB3.out.trans (ho4.below hqw HB3.out.size))
      clear hq4 ho4 HR3 HQ3 HB3
      generalize gpos l 0 m = p at *
      go_wp2_with fail
      refine (oget_open w4 r s l p al HR4.out (by omega)).mono ?_
      rintro e w5 ⟨vx, rfl, hx, hr5, ho5⟩
      have HX5 := Lib.hid hx
      have HR5 := Lib.hid hr5
      have HQ5 := Lib.hid (HQ4.out.keep ho5 hrq.symm)
      have HB5 := Lib.hid (HB4.out.trans (ho5.below hrw HB4.out.size))
      clear hx hr5 ho5 HR4 HQ4 HB4
      go_wp2_with fail
      refine (rget_open w5 q l p al HQ5.out (by omega)).mono ?_
      rintro e w6 ⟨vy, rfl, hy, hq6, ho6⟩
      have HY6 := Lib.hid hy
      have HX6 := Lib.hid (HQ5.out.sl_any HX5.out ho6)
      have HQ6 := Lib.hid hq6
      have HR6 := Lib.hid (HR5.out.keep ho6 hrq HQ5.out.no_u8)
      have HB6 := Lib.hid (HB5.out.trans (ho6.below hqw HB5.out.size))
      clear hy hq6 ho6 HR5 HQ5 HB5 HX5
      generalize rdOpen al l p = o at *
      obtain ⟨er, lx, p2⟩ := o
      have HRD : Go.RowKit.Hid (RdAt (World.drew w6) r s l p2) := Lib.hid (HR6.out.below ((Still.refl w6).drew.below _))
      have HQD := Lib.hid (HQ6.out.below ((Still.refl w6).drew.below _))
      have HQP : Go.RowKit.Hid ((World.drew w6).cell? ⟨q, 1, none⟩ = some (.int .i64 p2)) := Lib.hid HQD.out.pos
      have HSX : Go.RowKit.Hid (SlAt (World.drew w6) vx lx) := Lib.hid (HX6.out.below ((Still.refl w6).drew.below _))
      have HSY : Go.RowKit.Hid (SlAt (World.drew w6) vy lx) := Lib.hid (HY6.out.below ((Still.refl w6).drew.below _))
      have HB7 := Lib.hid HB6.out.drew
      clear HR6 HQ6 HQD
      by_cases he : er = 0
      · subst he
        clear HB6 HX6 HY6
        go_wp2_with fail
        go_region_held3 (fun w' => w'.cell? ⟨q, 1, none⟩ = some (.int .i64 p2)) (first | exact HQP.out) (first | (go_at_call 15; refine (opsame_yes _ _ _ lx HSX.out HSY.out).mono ?_; rintro e w8 ⟨rfl, rfl⟩) | (go_at_call 28; refine (pos_ok _ r l p2 HRD.out).mono ?_; rintro e w7 ⟨rfl, rfl⟩))
        go_wp2_with fail
        go_ret
        exact ⟨rfl, HB7.out⟩
      · obtain ⟨n1, n2⟩ := ne_facts he
        clear he
        have HQS := Lib.hid (fun n => same_quiet w6 n vx vy lx HX6.out HY6.out)
        go_wp2_with fail
        go_quiet (first | (go_at_call 15; exact HQS.out _))
        go_wp2_with fail
        go_ret
        exact ⟨rfl, HB6.out.trans ((drewN_still w6 _).below _)⟩
  · obtain ⟨n1, n2⟩ := ne_facts he
    clear he
    go_wp2_with fail
    go_region
    go_wp2_with fail
    clear HRD HQP
    generalize hdw : World.drew w6 = wd at *
    clear hdw
    refine (new_ok wd _ l (HSL.out.below HB7.out) (by omega)).mono ?_
    rintro e w1 ⟨s, r, rfl, hr1, hrd1, hb1⟩
    have HB1 := Lib.hid (HB7.out.trans (hb1.mono HB7.out.size))
    have HR1 := Lib.hid hrd1
    have hbs := HB7.out.size
    have hrw : w.heap.size ≤ r := by omega
    clear hrd1 hb1
    go_wp2_with fail
    refine (rnew_ok w1 _ l (HSL.out.below HB1.out) (by omega)).mono ?_
    rintro e w2 ⟨q, rfl, hq2, hqat, hb2⟩
    have HB2 := Lib.hid (HB1.out.trans (hb2.mono HB1.out.size))
    have HR2 := Lib.hid (HR1.out.below hb2)
    have HQ2 := Lib.hid hqat
    have hrq : r ≠ q := by have := HR1.out.lt; omega
    have hqw : w.heap.size ≤ q := by have := HB1.out.size; omega
    clear hqat hb2 hr1 hq2 hbs HR1 HB1 HB7
    go_wp2_with fail
    refine (get_m w2 r l m HR2.out (by omega)).mono ?_
    rintro e w3 ⟨⟨x3, rfl⟩, hr3, ho3⟩
    have HR3 := Lib.hid hr3
    have HQ3 := Lib.hid (HQ2.out.keep ho3 hrq.symm)
    have HB3 := Lib.hid (HB2.out.trans (ho3.below hrw HB2.out.size))
    clear hr3 ho3 HR2 HQ2 HB2
    go_wp2_with fail
    refine (rget_m w3 q l m HQ3.out (by omega)).mono ?_
    rintro e w4 ⟨⟨x4, rfl⟩, hq4, ho4⟩
    have HQ4 := Lib.hid hq4
    have HR4 := Lib.hid (HR3.out.keep ho4 hrq HQ3.out.no_u8)
    have HB4 := Lib.hid (HB3.out.trans (ho4.below hqw HB3.out.size))
    clear hq4 ho4 HR3 HQ3 HB3
    generalize gpos l 0 m = p at *
    go_wp2_with fail
    refine (oget_any w4 r l p al HR4.out (by omega)).mono ?_
    rintro e w5 ⟨rfl, hr5, ho5⟩
    have HR5 := Lib.hid hr5
    have HQ5 := Lib.hid (HQ4.out.keep ho5 hrq.symm)
    have HB5 := Lib.hid (HB4.out.trans (ho5.below hrw HB4.out.size))
    clear hr5 ho5 HR4 HQ4 HB4
    go_wp2_with fail
    refine (rget_any_int w5 q l p al HQ5.out (by omega)).mono ?_
    rintro e w6 ⟨rfl, hq6, ho6⟩
    have HQ6 := Lib.hid hq6
    have HR6 := Lib.hid (HR5.out.keep ho6 hrq HQ5.out.no_u8)
    have HB6 := Lib.hid (HB5.out.trans (ho6.below hqw HB5.out.size))
    clear hq6 ho6 HR5 HQ5 HB5
    generalize anyR (rdTak l (rlF al l p)) = o at *
    obtain ⟨er, n, p2⟩ := o
    have HRD := Lib.hid (HR6.out.below ((Still.refl w6).drew.below _))
    have HQD := Lib.hid (HQ6.out.below ((Still.refl w6).drew.below _))
    have HQP : Go.RowKit.Hid ((World.drew w6).cell? ⟨q, 1, none⟩ = some (.int .i64 p2)) := Lib.hid HQD.out.pos
    have HRD : Go.RowKit.Hid (RdAt (World.drew w6) r s l p2) := HRD
    have HB7 := Lib.hid HB6.out.drew
    clear HB6 HR6 HQ6 HQD
    by_cases he : er = 0
    · subst he
      go_wp2_with fail
      go_region_held3 (fun w' => w'.cell? ⟨q, 1, none⟩ = some (.int .i64 p2)) (first | exact HQP.out) (first | (go_at_call 28; refine (pos_ok _ r l p2 HRD.out).mono ?_; rintro e w7 ⟨rfl, rfl⟩))
      go_wp2_with fail
      clear HRD HQP
      generalize hdw : World.drew w6 = wd at *
      clear hdw
      refine (new_ok wd _ l (HSL.out.below HB7.out) (by omega)).mono ?_
      rintro e w1 ⟨s, r, rfl, hr1, hrd1, hb1⟩
      have HB1 := Lib.hid (HB7.out.trans (hb1.mono HB7.out.size))
      have HR1 := Lib.hid hrd1
      have hbs := HB7.out.size
      have hrw : w.heap.size ≤ r := by omega
      clear hrd1 hb1
      go_wp2_with fail
      refine (rnew_ok w1 _ l (HSL.out.below HB1.out) (by omega)).mono ?_
      rintro e w2 ⟨q, rfl, hq2, hqat, hb2⟩
      have HB2 := Lib.hid (HB1.out.trans (hb2.mono HB1.out.size))
      have HR2 := Lib.hid (HR1.out.below hb2)
      have HQ2 := Lib.hid hqat
      have hrq : r ≠ q := by have := HR1.out.lt; omega
      have hqw : w.heap.size ≤ q := by have := HB1.out.size; omega
      clear hqat hb2 hr1 hq2 hbs HR1 HB1 HB7
      go_wp2_with fail
      refine (get_m w2 r l m HR2.out (by omega)).mono ?_
      rintro e w3 ⟨⟨x3, rfl⟩, hr3, ho3⟩
      have HR3 := Lib.hid hr3
      have HQ3 := Lib.hid (HQ2.out.keep ho3 hrq.symm)
      have HB3 := Lib.hid (HB2.out.trans (ho3.below hrw HB2.out.size))
      clear hr3 ho3 HR2 HQ2 HB2
      go_wp2_with fail
      refine (rget_m w3 q l m HQ3.out (by omega)).mono ?_
      rintro e w4 ⟨⟨x4, rfl⟩, hq4, ho4⟩
      have HQ4 := Lib.hid hq4
      have HR4 := Lib.hid (HR3.out.keep ho4 hrq HQ3.out.no_u8)
      have HB4 := Lib.hid (HB3.out.trans (ho4.below hqw HB3.out.size))
      clear hq4 ho4 HR3 HQ3 HB3
      generalize gpos l 0 m = p at *
      go_wp2_with fail
      refine (oget_open w4 r s l p al HR4.out (by omega)).mono ?_
      rintro e w5 ⟨vx, rfl, hx, hr5, ho5⟩
      have HX5 := Lib.hid hx
      have HR5 := Lib.hid hr5
      have HQ5 := Lib.hid (HQ4.out.keep ho5 hrq.symm)
      have HB5 := Lib.hid (HB4.out.trans (ho5.below hrw HB4.out.size))
      clear hx hr5 ho5 HR4 HQ4 HB4
      go_wp2_with fail
      refine (rget_open w5 q l p al HQ5.out (by omega)).mono ?_
      rintro e w6 ⟨vy, rfl, hy, hq6, ho6⟩
      have HY6 := Lib.hid hy
      have HX6 := Lib.hid (HQ5.out.sl_any HX5.out ho6)
      have HQ6 := Lib.hid hq6
      have HR6 := Lib.hid (HR5.out.keep ho6 hrq HQ5.out.no_u8)
      have HB6 := Lib.hid (HB5.out.trans (ho6.below hqw HB5.out.size))
      clear hy hq6 ho6 HR5 HQ5 HB5 HX5
      generalize rdOpen al l p = o at *
      obtain ⟨er, lx, p2⟩ := o
      have HRD : Go.RowKit.Hid (RdAt (World.drew w6) r s l p2) := Lib.hid (HR6.out.below ((Still.refl w6).drew.below _))
      have HQD := Lib.hid (HQ6.out.below ((Still.refl w6).drew.below _))
      have HQP : Go.RowKit.Hid ((World.drew w6).cell? ⟨q, 1, none⟩ = some (.int .i64 p2)) := Lib.hid HQD.out.pos
      have HSX : Go.RowKit.Hid (SlAt (World.drew w6) vx lx) := Lib.hid (HX6.out.below ((Still.refl w6).drew.below _))
      have HSY : Go.RowKit.Hid (SlAt (World.drew w6) vy lx) := Lib.hid (HY6.out.below ((Still.refl w6).drew.below _))
      have HB7 := Lib.hid HB6.out.drew
      clear HR6 HQ6 HQD
      by_cases he : er = 0
      · subst he
        clear HB6 HX6 HY6
        go_wp2_with fail
        go_region_held3 (fun w' => w'.cell? ⟨q, 1, none⟩ = some (.int .i64 p2)) (first | exact HQP.out) (first | (go_at_call 15; refine (opsame_yes _ _ _ lx HSX.out HSY.out).mono ?_; rintro e w8 ⟨rfl, rfl⟩) | (go_at_call 28; refine (pos_ok _ r l p2 HRD.out).mono ?_; rintro e w7 ⟨rfl, rfl⟩))
        go_wp2_with fail
        go_ret
        exact ⟨rfl, HB7.out⟩
      · obtain ⟨n1, n2⟩ := ne_facts he
        clear he
        have HQS := Lib.hid (fun n => same_quiet w6 n vx vy lx HX6.out HY6.out)
        go_wp2_with fail
        go_quiet (first | (go_at_call 15; exact HQS.out _))
        go_wp2_with fail
        go_ret
        exact ⟨rfl, HB6.out.trans ((drewN_still w6 _).below _)⟩
    · obtain ⟨n1, n2⟩ := ne_facts he
      clear he
      go_wp2_with fail
      go_region
      go_wp2_with fail
      clear HRD HQP
      generalize hdw : World.drew w6 = wd at *
      clear hdw
      refine (new_ok wd _ l (HSL.out.below HB7.out) (by omega)).mono ?_
      rintro e w1 ⟨s, r, rfl, hr1, hrd1, hb1⟩
      have HB1 := Lib.hid (HB7.out.trans (hb1.mono HB7.out.size))
      have HR1 := Lib.hid hrd1
      have hbs := HB7.out.size
      have hrw : w.heap.size ≤ r := by omega
      clear hrd1 hb1
      go_wp2_with fail
      refine (rnew_ok w1 _ l (HSL.out.below HB1.out) (by omega)).mono ?_
      rintro e w2 ⟨q, rfl, hq2, hqat, hb2⟩
      have HB2 := Lib.hid (HB1.out.trans (hb2.mono HB1.out.size))
      have HR2 := Lib.hid (HR1.out.below hb2)
      have HQ2 := Lib.hid hqat
      have hrq : r ≠ q := by have := HR1.out.lt; omega
      have hqw : w.heap.size ≤ q := by have := HB1.out.size; omega
      clear hqat hb2 hr1 hq2 hbs HR1 HB1 HB7
      go_wp2_with fail
      refine (get_m w2 r l m HR2.out (by omega)).mono ?_
      rintro e w3 ⟨⟨x3, rfl⟩, hr3, ho3⟩
      have HR3 := Lib.hid hr3
      have HQ3 := Lib.hid (HQ2.out.keep ho3 hrq.symm)
      have HB3 := Lib.hid (HB2.out.trans (ho3.below hrw HB2.out.size))
      clear hr3 ho3 HR2 HQ2 HB2
      go_wp2_with fail
      refine (rget_m w3 q l m HQ3.out (by omega)).mono ?_
      rintro e w4 ⟨⟨x4, rfl⟩, hq4, ho4⟩
      have HQ4 := Lib.hid hq4
      have HR4 := Lib.hid (HR3.out.keep ho4 hrq HQ3.out.no_u8)
      have HB4 := Lib.hid (HB3.out.trans (ho4.below hqw HB3.out.size))
      clear hq4 ho4 HR3 HQ3 HB3
      generalize gpos l 0 m = p at *
      go_wp2_with fail
      refine (oget_open w4 r s l p al HR4.out (by omega)).mono ?_
      rintro e w5 ⟨vx, rfl, hx, hr5, ho5⟩
      have HX5 := Lib.hid hx
      have HR5 := Lib.hid hr5
      have HQ5 := Lib.hid (HQ4.out.keep ho5 hrq.symm)
      have HB5 := Lib.hid (HB4.out.trans (ho5.below hrw HB4.out.size))
      clear hx hr5 ho5 HR4 HQ4 HB4
      go_wp2_with fail
      refine (rget_open w5 q l p al HQ5.out (by omega)).mono ?_
      rintro e w6 ⟨vy, rfl, hy, hq6, ho6⟩
      have HY6 := Lib.hid hy
      have HX6 := Lib.hid (HQ5.out.sl_any HX5.out ho6)
      have HQ6 := Lib.hid hq6
      have HR6 := Lib.hid (HR5.out.keep ho6 hrq HQ5.out.no_u8)
      have HB6 := Lib.hid (HB5.out.trans (ho6.below hqw HB5.out.size))
      clear hy hq6 ho6 HR5 HQ5 HB5 HX5
      generalize rdOpen al l p = o at *
      obtain ⟨er, lx, p2⟩ := o
      have HRD : Go.RowKit.Hid (RdAt (World.drew w6) r s l p2) := Lib.hid (HR6.out.below ((Still.refl w6).drew.below _))
      have HQD := Lib.hid (HQ6.out.below ((Still.refl w6).drew.below _))
      have HQP : Go.RowKit.Hid ((World.drew w6).cell? ⟨q, 1, none⟩ = some (.int .i64 p2)) := Lib.hid HQD.out.pos
      have HSX : Go.RowKit.Hid (SlAt (World.drew w6) vx lx) := Lib.hid (HX6.out.below ((Still.refl w6).drew.below _))
      have HSY : Go.RowKit.Hid (SlAt (World.drew w6) vy lx) := Lib.hid (HY6.out.below ((Still.refl w6).drew.below _))
      have HB7 := Lib.hid HB6.out.drew
      clear HR6 HQ6 HQD
      by_cases he : er = 0
      · subst he
        clear HB6 HX6 HY6
        go_wp2_with fail
        go_region_held3 (fun w' => w'.cell? ⟨q, 1, none⟩ = some (.int .i64 p2)) (first | exact HQP.out) (first | (go_at_call 15; refine (opsame_yes _ _ _ lx HSX.out HSY.out).mono ?_; rintro e w8 ⟨rfl, rfl⟩) | (go_at_call 28; refine (pos_ok _ r l p2 HRD.out).mono ?_; rintro e w7 ⟨rfl, rfl⟩))
        go_wp2_with fail
        go_ret
        exact ⟨rfl, HB7.out⟩
      · obtain ⟨n1, n2⟩ := ne_facts he
        clear he
        have HQS := Lib.hid (fun n => same_quiet w6 n vx vy lx HX6.out HY6.out)
        go_wp2_with fail
        go_quiet (first | (go_at_call 15; exact HQS.out _))
        go_wp2_with fail
        go_ret
        exact ⟨rfl, HB6.out.trans ((drewN_still w6 _).below _)⟩
set_option maxHeartbeats 1000000 in
theorem walk_long (w : World) (a0 : Option Addr) (len0 cap0 : Nat) (hin0 : (200 : Int) < (len0 : Int)) (k : Int) (al : Bool) (lo : Int) :
    Calls Try.prog 4 #[.slice a0 len0 cap0, .int .i64 k, .bool al, .int .i64 lo] w fun e w' => e = .returned (.bool true) ∧ Below w.heap.size w w' := by
  have hq0 : decide ((200 : Int) < (len0 : Int)) = true := decide_eq_true hin0
  clear hin0
  go_enter Try.func4, Try.ntmps4
  go_wp2_with fail
  refine (opawake _).mono ?_
  rintro e wa ⟨rfl, hb⟩
  have HB := Lib.hid hb
  clear hb
  go_wp2_with fail
  go_ret
  exact ⟨rfl, HB.out⟩
theorem walk (w : World) (a0 : Option Addr) (len0 cap0 : Nat) (z0 : List Int) (w0 : IsRow .u8 w a0 len0 cap0 z0) (k : Int) (wk : (Lit.int .i64 k).wf = true) (al : Bool) (lo : Int) (w2 : (Lit.int .i64 lo).wf = true) :
    Calls Try.prog 4 #[.slice a0 len0 cap0, .int .i64 k, .bool al, .int .i64 lo] w fun e w' => e = .returned (.bool true) ∧ Below w.heap.size w w' := by
  obtain ⟨l, hsl, hl⟩ := sl_of_isRow w0
  by_cases h : (200 : Int) < (len0 : Int)
  · exact walk_long w a0 len0 cap0 h k al lo
  · exact walk_main w a0 len0 cap0 l hsl hl h k al lo (i64_bounds w2)

set_option maxRecDepth 100000 in
theorem lifted (os : Os) (started : os.Started) (H : Type) (enc : TypeId × Value → H) :
    ReturnsInHanded {} Try.checked os 4 .any (Rows.openGetsSpec.pre6 enc Try.prog Try.f4 Rows.openGetsRow.domain false) (Rows.openGetsSpec.post enc Try.prog Try.f4 false true false false) := by
  refine returnsInHanded_of_change (C := Try.checked) own started (by kernel_rfl) Try.func4
    (ChangeSpec.witness6 (enc := enc) (C := Try.checked) false ⟨#[], #[.slice none 0 0, .int .i64 0, .bool false, .int .i64 0], []⟩ 8 (by kernel_rfl) (by kernel_rfl) (by kernel_rfl) (by kernel_rfl)) ?_
  intro W base args ds gs before hval0 hW hcnd _
  have hval : ∀ (j : Nat) t v, Try.f4.params[j]? = some t → args[j]? = some v → Value.okWide Try.prog W .any base t v := hval0
  have hW' := hW
  obtain ⟨p, q, hA0, hV, rfl, hfz, hnd⟩ := hW
  have hA : DataW.TrodAll enc Try.prog W 0 (fun _ => true) true Try.f4.params.toList args.toList ds p := hA0
  rw [Try.params4] at hA hval
  obtain ⟨v0, vs0, d0, ds0, p0, q0, hargs, rfl, rfl, h0, r0⟩ := trodAll_cons hA
  obtain ⟨v1, vs1, d1, ds1, p1, q1, rfl, rfl, rfl, h1, r1⟩ := trodAll_cons r0
  obtain ⟨v2, vs2, d2, ds2, p2, q2, rfl, rfl, rfl, h2, r2⟩ := trodAll_cons r1
  obtain ⟨v3, vs3, d3, ds3, p3, q3, rfl, rfl, rfl, h3, r3⟩ := trodAll_cons r2
  obtain ⟨rfl, rfl, rfl⟩ := trodAll_nil r3
  obtain rfl : args = #[v0, v1, v2, v3] := by cases args; simp_all
  obtain ⟨rfl, rfl⟩ := trodVars_none hV
  obtain ⟨a0, len0, cap0, rfl⟩ := okWide_slice Try.underlying22 (hval 0 22 v0 rfl rfl)
  have k0 := h0
  have lt0 : ∀ x ∈ p0, x.block < W.heap.size := by obtain ⟨m, hm⟩ := k0; exact DataW.trod_lt m _ _ _ hm
  obtain ⟨z0, w0⟩ : ∃ zs, IsRow .u8 W a0 len0 cap0 zs := by
    obtain ⟨fuel, hf⟩ := h0
    rcases open_ints Try.underlying22 Try.underlying5 (by kernel_rfl) hf with ⟨hcs, _⟩ | ⟨x, l, c, zs, hcs, _, hl, hm, hz, _, hcell, hwz⟩
    · simp [Value.cells] at hcs
      obtain ⟨rfl, rfl, rfl⟩ := hcs
      exact ⟨[], .inl ⟨rfl, rfl, rfl, rfl⟩⟩
    · simp [Value.cells] at hcs
      obtain ⟨rfl, rfl, rfl⟩ := hcs
      exact ⟨zs, .inr ⟨_, rfl, hl, hm, by simpa using hz, hcell, hwz⟩⟩
  obtain ⟨a1, rfl, rfl, rfl, w1⟩ := open_int Try.underlying3 (hval 1 3 v1 rfl rfl) h1
  obtain ⟨a2, rfl, rfl, rfl⟩ := open_bool Try.underlying4 (hval 2 4 v2 rfl rfl) h2
  obtain ⟨a3, rfl, rfl, rfl, w3⟩ := open_int Try.underlying3 (hval 3 3 v3 rfl rfl) h3
  clear hA0 hval0
  refine (walk W a0 len0 cap0 z0 w0 a1 w1 a2 a3 w3).mono fun e W' ⟨he, bel⟩ => ?_
  subst he
  exact ⟨_, rfl, _, _, _, [], _, [], hW', trodAll_mk1 (shut_bool Try.underlying4 _), (trodAll_cons_mk (Below.trod laidOut (by kernel_rfl) (of_decide_eq_true (by kernel_rfl)) k0 bel lt0) (trodAll_cons_mk (shut_int Try.underlying3 w1) (trodAll_cons_mk (shut_bool Try.underlying4 a2) (trodAll_cons_mk (shut_int Try.underlying3 w3) trodAll_mk0)))), rfl, bel.frame _, fun h => by cases h⟩

theorem over : Rows.openGetsRow.holds Try.pinned (OpenSpec.ofChange Rows.openGetsSpec) :=
  OpenClaim.holds_of_wide 4 Try.f4 rfl rfl rfl rfl rfl rfl rfl ⟨rfl, rfl, rfl, rfl, rfl⟩ rfl rfl rfl rfl rfl (by kernel_rfl) Try.func4 (by kernel_rfl)
    (of_decide_eq_true (by kernel_rfl)) (by unfold Func.isWrapper; first | (rw [if_pos (by decide +kernel)]; kernel_rfl) | (rw [if_neg (by decide +kernel)]; exact ⟨rfl, rfl⟩))
    (fun os started H enc _ => lifted os started H enc)

theorem proved : Rows.OpenGetsSaid := over
end Go.Proofs.Ytinggfelgcdkfaa.openGets
