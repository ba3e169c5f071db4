/-
  Proved: the statement StreamReads (what any steps of reading tell of any octets, where the Reader stands then, and whether that is an end, is what the document says), for every input; no further condition.
-/
import Derived.Test.YtngflbknddbniaaRows
import Derived.Test.YtngflbknddbniaaAny
import Derived.Test.YtngflbknddbniaaOps
import Derived.ProofKit
import Derived.OpenShut
import Derived.ShutString
import Derived.ChangeOld
namespace Go.Proofs.Ytngflbknddbniaa.streamReads
open Go.ChangeShapes Go.WideShapes Go.ChangeAt Go.RowKit
open Go.ChangeMaps (open_string shut_string)
set_option linter.unusedVariables false
set_option linter.unusedSimpArgs false

theorem own : ownKnob Try.prog.godebug = none := by kernel_rfl
theorem laidOut : laidOutB Try.prog = true := by kernel_rfl

def Rel (w : World) (len r q : Nat) (s : Value) (l : List Nat) (i : Value) (wr : World) : Prop := ∃ (j p : Nat), j ≤ len ∧ i = .int .i64 j ∧ RdAt wr r s l p ∧ QAt wr q (bitsOf l) p ∧ Below w.heap.size w wr
theorem rel_next {w w4 : World} {len r q j p : Nat} {s : Value} {l : List Nat} (hlt : j < len) (hr : RdAt w4 r s l p) (hq : QAt w4 q (bitsOf l) p) (hb : Below w.heap.size w w4) : Rel w len r q s l (.int .i64 ((j : Int) + 1)) w4 :=
  ⟨j + 1, p, hlt, by go_num, hr, hq, hb⟩
set_option maxHeartbeats 4000000 in
set_option maxRecDepth 100000 in
theorem walk_main (w : World) (a0 : Option Addr) (len0 cap0 : Nat) (l : List Nat) (hsl : SlAt w (.slice a0 len0 cap0) l) (hl : l.length = len0) (a1 : Option Addr) (len1 cap1 : Nat) (ops : List OpV) (hops : OpsIn w a1 len1 ops) (hin0 : (len0 : Int) ≤ 200) (hin1 : (len1 : Int) ≤ 200) :
    Calls Try.prog 4 #[.slice a0 len0 cap0, .slice a1 len1 cap1] w fun e w' => e = .returned (.bool true) ∧ Below w.heap.size w w' := by
  have HOPS := Lib.hid hops
  have HSL := Lib.hid hsl
  have hl8 : l.length ≤ 200 := by omega
  clear hops hsl hl
  go_enter Try.func4, Try.ntmps4
  go_wp2_with fail
  refine (awake_any _).mono ?_
  rintro e wa ⟨rfl, hb⟩
  have HB := Lib.hid hb
  clear hb
  go_wp2_with fail
  refine (new_ok wa _ l (HSL.out.below HB.out) (by omega)).mono ?_
  rintro e w1 ⟨s, r, rfl, hr1, hrd1, hb1⟩
  have HB1 := Lib.hid (HB.out.trans (hb1.mono HB.out.size))
  have HR1 := Lib.hid hrd1
  have hbs := HB.out.size
  have hrw : w.heap.size ≤ r := by omega
  clear hrd1 hb1
  go_wp2_with fail
  refine (rnew_ok w1 _ l (HSL.out.below HB1.out) (by omega)).mono ?_
  rintro e w2 ⟨q, rfl, hq2, hqat, hb2⟩
  have HB2 := Lib.hid (HB1.out.trans (hb2.mono HB1.out.size))
  have HR2 := Lib.hid (HR1.out.below hb2)
  have HQ2 := Lib.hid hqat
  have hrq : r ≠ q := by have := HR1.out.lt; omega
  have hqw : w.heap.size ≤ q := by have := HB1.out.size; omega
  clear hqat hb2 hr1 hq2 hbs HR1 HB1 HB HSL
  go_wp2_with fail
  go_loopw [8] (fun i wr => Rel w len1 r q s l i wr) (fun i _ => len1 - (intOf i).toNat)
  case atStart => exact ⟨0, 0, Nat.zero_le _, rfl, HR2.out, HQ2.out, HB2.out⟩
  case round =>
    obtain ⟨j, p, hj, rfl, hr, hq, hbl⟩ := hrel
    have HR := Lib.hid hr
    have HQ := Lib.hid hq
    have HBL := Lib.hid hbl
    have hbs := hbl.size
    clear hr hq hbl
    by_cases hlt : j < len1
    · obtain ⟨hol, hoo⟩ := HOPS.out
      obtain ⟨g, o, ha, hat⟩ := hoo (by omega)
      obtain ⟨hok, hcells⟩ := hat j (by omega)
      obtain ⟨op, hop⟩ : ∃ op, ops[j]'(by omega) = op := ⟨_, rfl⟩
      rw [hop] at hok hcells
      have hcb := fun k u hk => (World.cell?_of_block (w := w) (w' := wr) (a := ⟨g, o + j * 4 + k, none⟩) (HBL.out.block g (World.block_lt_of_cell? w _ (hcells k u hk)))).trans (hcells k u hk)
      obtain ⟨what, v, wd, sa, scap, b⟩ := op
      have c0 : wr.cell? ⟨g, o + j * 4, none⟩ = some (.int .i64 what) := hcb 0 _ rfl
      have c2 : wr.cell? ⟨g, o + j * 4 + 2, none⟩ = some (.int .i64 wd) := hcb 2 _ rfl
      have hgw : g < w.heap.size := World.block_lt_of_cell? w _ (hcells 0 _ rfl)
      subst ha
      clear hol hoo hat hok hcells hop hcb
      by_cases hw0 : what = 0
      · subst hw0
        go_wp2_with fail
        refine (get_any wr r l p wd HR.out (by omega)).mono ?_
        rintro e w3 ⟨rfl, hr3, ho3⟩
        have HR3 := Lib.hid hr3
        have HQ3 := Lib.hid (HQ.out.keep ho3 hrq.symm)
        have HB3 := Lib.hid (HBL.out.trans (ho3.below hrw hbs))
        have d2 : w3.cell? ⟨g, o + j * 4 + 2, none⟩ = some (.int .i64 wd) := (World.cell?_of_block (w := wr) (ho3.block g (World.block_lt_of_cell? wr _ c2) (by omega))).trans c2
        have hbs3 := HB3.out.size
        clear hr3 ho3 HR HQ HBL c0 c2
        go_wp2_with fail
        refine (rget_any w3 q l p wd HQ3.out (by omega)).mono ?_
        rintro e w4 ⟨rfl, hq4, ho4⟩
        have HQ4 := Lib.hid hq4
        have HR4 := Lib.hid (HR3.out.keep ho4 hrq HQ3.out.no_u8)
        have HB4 := Lib.hid (HB3.out.trans (ho4.below hqw hbs3))
        clear hq4 ho4 HR3 HQ3 HB3 d2
        revert HQ4 HR4
        generalize gpos l p wd = p2
        generalize gval l p wd = x
        generalize gerr l p wd = f
        intro HQ4 HR4
        go_wp2_with fail
        have hpos := HQ4.out.pos
        have HRD := Lib.hid (HR4.out.below ((Still.refl w4).drew.below _))
        have HQD := Lib.hid (HQ4.out.below ((Still.refl w4).drew.below _))
        go_region_held3 (fun w' => w'.cell? ⟨q, 1, none⟩ = some (.int .i64 p2)) (first | exact hpos | exact (HQD.out.still HS5.out).pos | exact ((HQD.out.still HS5.out).still HS6.out).pos) (first | (go_at_call 34; refine (pos_ok _ r l p2 HRD.out).mono ?_; rintro e w5 ⟨rfl, rfl⟩) | (go_at_call 35; refine (end_any _ r l p2 HRD.out (by omega)).mono ?_; rintro e w5 ⟨rfl, hs5⟩; have HS5 := Lib.hid hs5; clear hs5) | (go_at_call 36; refine (rrend_any _ q l p2 (HQD.out.still HS5.out) (by omega)).mono ?_; rintro e w6 ⟨rfl, hs6⟩; have HS6 := Lib.hid hs6; clear hs6))
        have HR6 := Lib.hid ((HRD.out.still HS5.out).still HS6.out)
        have HQ6 := Lib.hid ((HQD.out.still HS5.out).still HS6.out)
        have HB6 := Lib.hid (((HB4.out.drew.trans (HS5.out.below _)).trans (HS6.out.below _)))
        clear hpos HRD HQD HS5 HS6 HR4 HQ4 HB4
        go_wp2_with fail
        go_roundw
        case rel => exact rel_next hlt HR6.out HQ6.out HB6.out
        case measure => simp [intOf]; omega
      · by_cases hw1 : what = 1
        · subst hw1
          go_wp2_with fail
          refine (ralign_all wr r l p HR.out (by omega)).mono ?_
          rintro e w3 ⟨rfl, hr3, ho3⟩
          have HR3 := Lib.hid hr3
          have HQ3 := Lib.hid (HQ.out.keep ho3 hrq.symm)
          have HB3 := Lib.hid (HBL.out.trans (ho3.below hrw hbs))
          have hbs3 := HB3.out.size
          clear hr3 ho3 HR HQ HBL c0 c2
          go_wp2_with fail
          refine (rralign_all w3 q l p HQ3.out (by omega)).mono ?_
          rintro e w4 ⟨rfl, hq4, ho4⟩
          have HQ4 := Lib.hid hq4
          have HR4 := Lib.hid (HR3.out.keep ho4 hrq HQ3.out.no_u8)
          have HB4 := Lib.hid (HB3.out.trans (ho4.below hqw hbs3))
          clear hq4 ho4 HR3 HQ3 HB3
          revert HQ4 HR4
          generalize apos l p = p2
          generalize aerr l p = f
          intro HQ4 HR4
          go_wp2_with fail
          have hpos := HQ4.out.pos
          have HRD := Lib.hid (HR4.out.below ((Still.refl w4).drew.below _))
          have HQD := Lib.hid (HQ4.out.below ((Still.refl w4).drew.below _))
          go_region_held3 (fun w' => w'.cell? ⟨q, 1, none⟩ = some (.int .i64 p2)) (first | exact hpos | exact (HQD.out.still HS5.out).pos | exact ((HQD.out.still HS5.out).still HS6.out).pos) (first | (go_at_call 34; refine (pos_ok _ r l p2 HRD.out).mono ?_; rintro e w5 ⟨rfl, rfl⟩) | (go_at_call 35; refine (end_any _ r l p2 HRD.out (by omega)).mono ?_; rintro e w5 ⟨rfl, hs5⟩; have HS5 := Lib.hid hs5; clear hs5) | (go_at_call 36; refine (rrend_any _ q l p2 (HQD.out.still HS5.out) (by omega)).mono ?_; rintro e w6 ⟨rfl, hs6⟩; have HS6 := Lib.hid hs6; clear hs6))
          have HR6 := Lib.hid ((HRD.out.still HS5.out).still HS6.out)
          have HQ6 := Lib.hid ((HQD.out.still HS5.out).still HS6.out)
          have HB6 := Lib.hid (((HB4.out.drew.trans (HS5.out.below _)).trans (HS6.out.below _)))
          clear hpos HRD HQD HS5 HS6 HR4 HQ4 HB4
          go_wp2_with fail
          go_roundw
          case rel => exact rel_next hlt HR6.out HQ6.out HB6.out
          case measure => simp [intOf]; omega
        · have hn0 : (what == 0) = false := by simpa using hw0
          have hn1 : (what == 1) = false := by simpa using hw1
          go_wp2_with fail
          refine (roctets_any wr r l p wd HR.out (by omega)).mono ?_
          rintro e w3 ⟨v1, rfl, hs3, hr3, ho3⟩
          have HR3 := Lib.hid hr3
          have HS3 := Lib.hid hs3
          have HQ3 := Lib.hid (HQ.out.keep ho3 hrq.symm)
          have HB3 := Lib.hid (HBL.out.trans (ho3.below hrw hbs))
          have d2 : w3.cell? ⟨g, o + j * 4 + 2, none⟩ = some (.int .i64 wd) := (World.cell?_of_block (w := wr) (ho3.block g (World.block_lt_of_cell? wr _ c2) (by omega))).trans c2
          have hbs3 := HB3.out.size
          clear hr3 hs3 ho3 HR HQ HBL c0 c2
          go_wp2_with fail
          refine (rroct_any w3 q l p wd HQ3.out (by omega)).mono ?_
          rintro e w4 ⟨v2, rfl, hs4, hq4, ho4⟩
          have HQ4 := Lib.hid hq4
          have HS4 := Lib.hid hs4
          have HT4 := Lib.hid (HQ3.out.sl_any HS3.out ho4)
          have HR4 := Lib.hid (HR3.out.keep ho4 hrq HQ3.out.no_u8)
          have HB4 := Lib.hid (HB3.out.trans (ho4.below hqw hbs3))
          clear hq4 hs4 ho4 HR3 HQ3 HB3 HS3 d2
          revert HQ4 HR4 HS4 HT4
          generalize opos l p wd = p2
          generalize olst l p wd = x
          generalize oerr l p wd = f
          intro HQ4 HS4 HT4 HR4
          go_wp2_with fail
          refine (same_yes w4 _ _ x HT4.out HS4.out).mono ?_
          rintro e w5 ⟨rfl, rfl⟩
          clear HT4 HS4
          go_wp2_with fail
          have hpos := HQ4.out.pos
          have HRD := Lib.hid (HR4.out.below ((Still.refl w4).drew.below _))
          have HQD := Lib.hid (HQ4.out.below ((Still.refl w4).drew.below _))
          go_region_held3 (fun w' => w'.cell? ⟨q, 1, none⟩ = some (.int .i64 p2)) (first | exact hpos | exact (HQD.out.still HS5.out).pos | exact ((HQD.out.still HS5.out).still HS6.out).pos) (first | (go_at_call 34; refine (pos_ok _ r l p2 HRD.out).mono ?_; rintro e w5 ⟨rfl, rfl⟩) | (go_at_call 35; refine (end_any _ r l p2 HRD.out (by omega)).mono ?_; rintro e w5 ⟨rfl, hs5⟩; have HS5 := Lib.hid hs5; clear hs5) | (go_at_call 36; refine (rrend_any _ q l p2 (HQD.out.still HS5.out) (by omega)).mono ?_; rintro e w6 ⟨rfl, hs6⟩; have HS6 := Lib.hid hs6; clear hs6))
          have HR6 := Lib.hid ((HRD.out.still HS5.out).still HS6.out)
          have HQ6 := Lib.hid ((HQD.out.still HS5.out).still HS6.out)
          have HB6 := Lib.hid (((HB4.out.drew.trans (HS5.out.below _)).trans (HS6.out.below _)))
          clear hpos HRD HQD HS5 HS6 HR4 HQ4 HB4
          go_wp2_with fail
          go_roundw
          case rel => exact rel_next hlt HR6.out HQ6.out HB6.out
          case measure => simp [intOf]; omega
    · obtain rfl : j = len1 := by omega
      go_wp2_with fail
      refine (end_any wr r l p HR.out (by omega)).mono ?_
      rintro e w5 ⟨rfl, hs5⟩
      have HQ5 := Lib.hid (HQ.out.still hs5)
      have HB5 := Lib.hid (HBL.out.trans (hs5.below _))
      clear hs5 HR HQ HBL
      go_wp2_with fail
      refine (rrend_any w5 q l p HQ5.out (by omega)).mono ?_
      rintro e w6 ⟨rfl, hs6⟩
      have HB6 := Lib.hid (HB5.out.trans (hs6.below _))
      clear hs6 HQ5 HB5
      go_wp2_with fail
      go_ret
      exact ⟨rfl, HB6.out⟩
set_option maxHeartbeats 2000000 in
set_option maxRecDepth 100000 in
theorem walk_long (w : World) (a0 : Option Addr) (len0 cap0 : Nat) (a1 : Option Addr) (len1 cap1 : Nat) (hout : (decide ((200 : Int) < len0) || decide ((200 : Int) < len1)) = true) :
    Calls Try.prog 4 #[.slice a0 len0 cap0, .slice a1 len1 cap1] w fun e w' => e = .returned (.bool true) ∧ Below w.heap.size w w' := by
  rw [Bool.or_eq_true] at hout
  by_cases h0 : (200 : Int) < len0
  · have hq : decide ((200 : Int) < len0) = true := decide_eq_true h0
    clear hout
    go_enter Try.func4, Try.ntmps4
    go_wp2_with (go_at_call 15; refine (awake_any _).mono ?_; rintro e wa ⟨rfl, hba⟩; have HB := Lib.hid hba; clear hba)
    go_ret
    exact ⟨rfl, HB.out⟩
  · have hq : decide ((200 : Int) < len0) = false := decide_eq_false h0
    have hq1 : decide ((200 : Int) < len1) = true := hout.resolve_left (by rw [hq]; decide)
    clear hout
    go_enter Try.func4, Try.ntmps4
    go_wp2_with (go_at_call 15; refine (awake_any _).mono ?_; rintro e wa ⟨rfl, hba⟩; have HB := Lib.hid hba; clear hba)
    go_ret
    exact ⟨rfl, HB.out⟩
theorem walk (w : World) (a0 : Option Addr) (len0 cap0 : Nat) (z0 : List Int) (w0 : IsRow .u8 w a0 len0 cap0 z0) (a1 : Option Addr) (len1 cap1 : Nat) (w1 : ∃ ops, OpsIn w a1 len1 ops) :
    Calls Try.prog 4 #[.slice a0 len0 cap0, .slice a1 len1 cap1] w fun e w' => e = .returned (.bool true) ∧ Below w.heap.size w w' := by
  obtain ⟨l, hsl, hl⟩ := sl_of_isRow w0
  obtain ⟨ops, hops⟩ := w1
  by_cases h : (decide ((200 : Int) < len0) || decide ((200 : Int) < len1)) = true
  · exact walk_long w a0 len0 cap0 a1 len1 cap1 h
  · simp at h
    exact walk_main w a0 len0 cap0 l hsl hl a1 len1 cap1 ops hops (by omega) (by omega)

set_option maxRecDepth 100000 in
theorem lifted (os : Os) (started : os.Started) (H : Type) (enc : TypeId × Value → H) :
    ReturnsInHanded {} Try.checked os 4 .any (Rows.streamReadsSpec.pre6 enc Try.prog Try.f4 Rows.streamReadsRow.domain false) (Rows.streamReadsSpec.post enc Try.prog Try.f4 false true false false) := by
  refine returnsInHanded_of_change (C := Try.checked) own started (by kernel_rfl) Try.func4
    (ChangeSpec.witness6 (enc := enc) (C := Try.checked) false ⟨#[], #[.slice none 0 0, .slice none 0 0], []⟩ 8 (by kernel_rfl) (by kernel_rfl) (by kernel_rfl) (by kernel_rfl)) ?_
  intro W base args ds gs before hval0 hW hcnd _
  have hval : ∀ (j : Nat) t v, Try.f4.params[j]? = some t → args[j]? = some v → Value.okWide Try.prog W .any base t v := hval0
  have hW' := hW
  obtain ⟨p, q, hA0, hV, rfl, hfz, hnd⟩ := hW
  have hA : DataW.TrodAll enc Try.prog W 0 (fun _ => true) true Try.f4.params.toList args.toList ds p := hA0
  rw [Try.params4] at hA hval
  obtain ⟨v0, vs0, d0, ds0, p0, q0, hargs, rfl, rfl, h0, r0⟩ := trodAll_cons hA
  obtain ⟨v1, vs1, d1, ds1, p1, q1, rfl, rfl, rfl, h1, r1⟩ := trodAll_cons r0
  obtain ⟨rfl, rfl, rfl⟩ := trodAll_nil r1
  obtain rfl : args = #[v0, v1] := by cases args; simp_all
  obtain ⟨rfl, rfl⟩ := trodVars_none hV
  obtain ⟨a0, len0, cap0, rfl⟩ := okWide_slice Try.underlying30 (hval 0 30 v0 rfl rfl)
  have k0 := h0
  have lt0 : ∀ x ∈ p0, x.block < W.heap.size := by obtain ⟨m, hm⟩ := k0; exact DataW.trod_lt m _ _ _ hm
  obtain ⟨z0, w0⟩ : ∃ zs, IsRow .u8 W a0 len0 cap0 zs := by
    obtain ⟨fuel, hf⟩ := h0
    rcases open_ints Try.underlying30 Try.underlying5 (by kernel_rfl) hf with ⟨hcs, _⟩ | ⟨x, l, c, zs, hcs, _, hl, hm, hz, _, hcell, hwz⟩
    · simp [Value.cells] at hcs
      obtain ⟨rfl, rfl, rfl⟩ := hcs
      exact ⟨[], .inl ⟨rfl, rfl, rfl, rfl⟩⟩
    · simp [Value.cells] at hcs
      obtain ⟨rfl, rfl, rfl⟩ := hcs
      exact ⟨zs, .inr ⟨_, rfl, hl, hm, by simpa using hz, hcell, hwz⟩⟩
  obtain ⟨a1, len1, cap1, rfl⟩ := okWide_slice Try.underlying22 (hval 1 22 v1 rfl rfl)
  have k1 := h1
  have lt1 : ∀ x ∈ p1, x.block < W.heap.size := by obtain ⟨m, hm⟩ := k1; exact DataW.trod_lt m _ _ _ hm
  have w1 := open_ops h1
  clear hA0 hval0
  refine (walk W a0 len0 cap0 z0 w0 a1 len1 cap1 w1).mono fun e W' ⟨he, bel⟩ => ?_
  subst he
  exact ⟨_, rfl, _, _, _, [], _, [], hW', trodAll_mk1 (shut_bool Try.underlying4 _), (trodAll_cons_mk (Below.trod laidOut (by kernel_rfl) (of_decide_eq_true (by kernel_rfl)) k0 bel lt0) (trodAll_cons_mk (Below.trod laidOut (by kernel_rfl) (of_decide_eq_true (by kernel_rfl)) k1 bel lt1) trodAll_mk0)), rfl, bel.frame _, fun h => by cases h⟩

theorem over : Rows.streamReadsRow.holds Try.pinned (OpenSpec.ofChange Rows.streamReadsSpec) :=
  OpenClaim.holds_of_wide 4 Try.f4 rfl rfl rfl rfl rfl rfl rfl ⟨rfl, rfl, rfl, rfl, rfl⟩ rfl rfl rfl rfl rfl (by kernel_rfl) Try.func4 (by kernel_rfl)
    (of_decide_eq_true (by kernel_rfl)) (by unfold Func.isWrapper; first | (rw [if_pos (by decide +kernel)]; kernel_rfl) | (rw [if_neg (by decide +kernel)]; exact ⟨rfl, rfl⟩))
    (fun os started H enc _ => lifted os started H enc)

theorem proved : Rows.StreamReadsSaid := over
end Go.Proofs.Ytngflbknddbniaa.streamReads
