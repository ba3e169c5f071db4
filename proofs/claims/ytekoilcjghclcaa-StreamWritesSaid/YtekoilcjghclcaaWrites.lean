/-
  Proved: the statement StreamWrites (what any steps write is what the document says, bit for bit), for every input; no further condition.
-/
import Derived.Test.YtekoilcjghclcaaRows
import Derived.Test.YtekoilcjghclcaaRef2
import Derived.Deep.RegionHeld3
import Derived.ProofKit
import Derived.OpenShut
import Derived.ShutString
import Derived.ChangeOld
namespace Go.Proofs.Ytekoilcjghclcaa.streamWrites
open Go.ChangeShapes Go.WideShapes Go.ChangeAt Go.RowKit
open Go.ChangeMaps (open_string shut_string)
set_option linter.unusedVariables false
set_option linter.unusedSimpArgs false

theorem own : ownKnob Try.prog.godebug = none := by kernel_rfl
theorem laidOut : laidOutB Try.prog = true := by kernel_rfl

theorem cell_only {w w' : World} {b g o : Nat} {v : Value} (h : Only b w w') (hne : g ≠ b) (hc : w.cell? ⟨g, o, none⟩ = some v) : w'.cell? ⟨g, o, none⟩ = some v := by
  rw [← hc]
  exact World.cell?_of_block (w := w) (h.block g (World.block_lt_of_cell? w _ hc) hne)
theorem cell_below {w w' : World} {n g o : Nat} {v : Value} (h : Below n w w') (hg : g < n) (hc : w.cell? ⟨g, o, none⟩ = some v) : w'.cell? ⟨g, o, none⟩ = some v := by
  rw [← hc]
  exact World.cell?_of_block (w := w) (h.block g hg)
def Rel (w : World) (len x : Nat) (sv i : Value) (wr : World) : Prop := ∃ (j : Nat) (B : List Bool), j ≤ len ∧ i = .int .i64 j ∧ B.length ≤ 800 * j ∧ sv = .string (bchars B) ∧ WrAt wr x B ∧ Below w.heap.size w wr
theorem rel_next {w w4 : World} {len x j : Nat} {B : List Bool} (hlt : j < len) (hwr : WrAt w4 x B) (hb : Below w.heap.size w w4) (hl : B.length ≤ 800 * j + 800) : Rel w len x (.string (bchars B)) (.int .i64 ((j : Int) + 1)) w4 :=
  ⟨j + 1, B, hlt, by go_num, by omega, rfl, hwr, hb⟩

set_option maxHeartbeats 2000000 in
set_option maxRecDepth 100000 in
theorem walk_long (w : World) (a : Option Addr) (len cap : Nat) (hout : (100 : Int) < len) :
    Calls Try.prog 3 #[.slice a len cap] w fun e w' => e = .returned (.bool true) ∧ Below w.heap.size w w' := by
  go_enter Try.func3, Try.ntmps3
  go_wp2_with (go_at_call 9; refine (awake_any _).mono ?_; rintro e wa ⟨rfl, hba⟩; have HB := Lib.hid hba; clear hba)
  go_ret
  exact ⟨rfl, HB.out⟩

set_option maxHeartbeats 4000000 in
set_option maxRecDepth 100000 in
theorem walk_main (w : World) (a : Option Addr) (len cap : Nat) (ops : List OpV) (hops : OpsIn w a len ops) (hin : (len : Int) ≤ 100) :
    Calls Try.prog 3 #[.slice a len cap] w fun e w' => e = .returned (.bool true) ∧ Below w.heap.size w w' := by
  have HOPS := Lib.hid hops
  clear hops
  have hzv := zero_writer
  go_enter Try.func3, Try.ntmps3
  go_wp2_with (go_at_call 9; refine (awake_any _).mono ?_; rintro e wa ⟨rfl, hba⟩; have hsa := hba.size; have HBA := Lib.hid hba; clear hba)
  have hw1 := wr_new wa
  have hb1 : Below w.heap.size w (wa.alloc (.cells newCells 28)) := HBA.out.alloc hsa _
  clear hzv HBA
  revert hw1 hb1
  generalize wa.alloc (.cells newCells 28) = W1
  generalize wa.heap.size = x at *
  intro hw1 hb1
  have HW1 := Lib.hid hw1
  have HB1 := Lib.hid hb1
  clear hw1 hb1
  go_loopw [5, 6] (fun sv i wr => Rel w len x sv i wr) (fun _ i _ => len - (intOf i).toNat)
  case atStart => exact ⟨0, [], Nat.zero_le _, rfl, Nat.le_refl _, rfl, HW1.out, HB1.out⟩
  case round =>
    obtain ⟨j, B, hj, rfl, hwl, rfl, hwr, hbl⟩ := hrel
    have HWR := Lib.hid hwr
    have HBL := Lib.hid hbl
    have hbs := hbl.size
    clear hwr hbl
    by_cases hlt : j < len
    · obtain ⟨hol, hoo⟩ := HOPS.out
      obtain ⟨g, o, ha, hat⟩ := hoo (by omega)
      obtain ⟨hok, hcells⟩ := hat j (by omega)
      obtain ⟨op, hop⟩ : ∃ op, ops[j]'(by omega) = op := ⟨_, rfl⟩
      rw [hop] at hok hcells
      have hcb := fun k u hk => (World.cell?_of_block (w := w) (w' := wr) (a := ⟨g, o + j * 4 + k, none⟩) (HBL.out.block g (World.block_lt_of_cell? w _ (hcells k u hk)))).trans (hcells k u hk)
      obtain ⟨what, v, wd, sa, scap, b⟩ := op
      have c0 : wr.cell? ⟨g, o + j * 4, none⟩ = some (.int .i64 what) := hcb 0 _ rfl
      have c1 : wr.cell? ⟨g, o + j * 4 + 1, none⟩ = some (.int .u64 v) := hcb 1 _ rfl
      have c2 : wr.cell? ⟨g, o + j * 4 + 2, none⟩ = some (.int .i64 wd) := hcb 2 _ rfl
      have c3 : wr.cell? ⟨g, o + j * 4 + 3, none⟩ = some (.slice sa b.length scap) := hcb 3 _ rfl
      have HOK := Lib.hid hok
      have hgw : g < w.heap.size := World.block_lt_of_cell? w _ (hcells 0 _ rfl)
      have hv64 : v < 18446744073709551616 := hok.2.1
      subst ha
      clear hol hoo hat hok hcells hop hcb
      by_cases hbl : (100 : Int) < b.length
      · go_wp2_with fail
        go_ret
        exact ⟨rfl, HBL.out⟩
      · have hbl' : (b.length : Int) ≤ 100 := by omega
        by_cases hw0 : what = 0
        · subst hw0
          have hgr : g < wr.drew.heap.size := Nat.lt_of_lt_of_le hgw hbs
          by_cases hz : widthB wd = true
          · have hz' : 0 ≤ wd ∧ wd ≤ 64 := by simpa [widthB] using hz
            obtain ⟨k, rfl⟩ : ∃ k : Nat, wd = k := ⟨wd.toNat, by omega⟩
            have hk64 : k ≤ 64 := by omega
            clear hz hz'
            by_cases hv : v < 2 ^ k
            · have HR := fun w2 => Lib.hid (rput_ok w2 B v k (by omega) hk64 hv)
              go_wp2_with fail
              go_region_held3 (fun w' => w'.cell? ⟨g, o + j * 4 + 1, none⟩ = some (.int .u64 v) ∧ w'.cell? ⟨g, o + j * 4 + 2, none⟩ = some (.int .i64 k)) (first | exact ⟨c1, c2⟩ | exact ⟨cell_below (w := wr.drew) HB3.out hgr c1, cell_below (w := wr.drew) HB3.out hgr c2⟩) (first | (go_at_call 10; refine (HR _).out.mono ?_; rintro e w3 ⟨rfl, hb3⟩; have HB3 := Lib.hid hb3; clear hb3))
              have d1 := cell_below (w := wr.drew) HB3.out hgr c1
              have d2 := cell_below (w := wr.drew) HB3.out hgr c2
              have HW3 := Lib.hid ((HWR.out.below ((Still.refl wr).drew.below _)).below HB3.out)
              have HBL3 := Lib.hid (HBL.out.drew.trans (HB3.out.mono hbs))
              have HWD := Lib.hid (HW3.out.below ((Still.refl w3).drew.below _))
              have hbs3 := HBL3.out.size
              have hne : g ≠ x := by omega
              clear HR HB3 HWR HBL c0 c1 c2 c3 hgr
              go_wp2_with fail
              go_region_held3 (fun w' => w'.cell? ⟨g, o + j * 4 + 1, none⟩ = some (.int .u64 v) ∧ w'.cell? ⟨g, o + j * 4 + 2, none⟩ = some (.int .i64 k)) (first | exact ⟨d1, d2⟩ | exact ⟨cell_only (w := w3.drew) HO4.out hne d1, cell_only (w := w3.drew) HO4.out hne d2⟩) (first | (go_at_call 11; refine (put_ok _ x B v k HWD.out hk64 hv (by omega)).mono ?_; rintro e w4 ⟨rfl, hw4, ho4⟩; have HW4 := Lib.hid hw4; have HO4 := Lib.hid ho4; clear hw4 ho4))
              have HBL4 := Lib.hid (HBL3.out.drew.trans (HO4.out.below hsa hbs3))
              have hsz := bchars_size (B ++ nb v k)
              clear HWD HW3 HBL3 HO4
              go_wp2_with fail
              refine (len_ok w4 x _ HW4.out).mono ?_
              rintro e w' ⟨rfl, rfl⟩
              go_wp2_with fail
              go_roundw
              case rel => exact rel_next hlt HW4.out HBL4.out (by rw [List.length_append, nb_length]; omega)
              case measure => simp [intOf]; omega
            · have hk : k < 64 := by
                rcases Nat.lt_or_ge k 64 with h | h
                · exact h
                · obtain rfl : k = 64 := by omega
                  exact absurd hv64 hv
              have hv' : 2 ^ k ≤ v := by omega
              have HR := fun w2 => Lib.hid (rput_big w2 (bchars B) v k hk hv')
              go_wp2_with fail
              go_region_held3 (fun w' => w'.cell? ⟨g, o + j * 4 + 1, none⟩ = some (.int .u64 v) ∧ w'.cell? ⟨g, o + j * 4 + 2, none⟩ = some (.int .i64 k)) (first | exact ⟨c1, c2⟩) (first | (go_at_call 10; refine (HR _).out.mono ?_; rintro e w3 ⟨rfl, rfl⟩))
              have HWD := Lib.hid (HWR.out.below ((Still.refl wr).drew.below _))
              have HP := fun w2 => Lib.hid (put_big w2 x v k (by omega) hv')
              have HBD := Lib.hid HBL.out.drew
              have d1 : wr.drew.cell? ⟨g, o + j * 4 + 1, none⟩ = some (.int .u64 v) := c1
              have d2 : wr.drew.cell? ⟨g, o + j * 4 + 2, none⟩ = some (.int .i64 k) := c2
              clear HR HWR HBL c0 c1 c2 c3 hgr
              revert HWD HBD d1 d2
              generalize wr.drew = w3
              intro HWD HBD d1 d2
              go_wp2_with fail
              go_region_held3 (fun w' => w'.cell? ⟨g, o + j * 4 + 1, none⟩ = some (.int .u64 v) ∧ w'.cell? ⟨g, o + j * 4 + 2, none⟩ = some (.int .i64 k)) (first | exact ⟨d1, d2⟩) (first | (go_at_call 11; refine (HP _).out.mono ?_; rintro e w4 ⟨rfl, rfl⟩))
              have HW4 := Lib.hid (HWD.out.below ((Still.refl w3).drew.below _))
              have HBL4 := Lib.hid HBD.out.drew
              have hsz := bchars_size B
              clear HWD HBD HP
              go_wp2_with fail
              refine (len_ok _ x _ HW4.out).mono ?_
              rintro e w' ⟨rfl, rfl⟩
              go_wp2_with fail
              go_roundw
              case rel => exact rel_next hlt HW4.out HBL4.out (by omega)
              case measure => simp [intOf]; omega
          · have hz' : widthB wd = false := by simpa using hz
            clear hz
            have HR := fun w2 => Lib.hid (rput_wide w2 (bchars B) v wd hz')
            go_wp2_with fail
            go_region_held3 (fun w' => w'.cell? ⟨g, o + j * 4 + 1, none⟩ = some (.int .u64 v) ∧ w'.cell? ⟨g, o + j * 4 + 2, none⟩ = some (.int .i64 wd)) (first | exact ⟨c1, c2⟩) (first | (go_at_call 10; refine (HR _).out.mono ?_; rintro e w3 ⟨rfl, rfl⟩))
            have HWD := Lib.hid (HWR.out.below ((Still.refl wr).drew.below _))
            have HP := fun w2 => Lib.hid (put_wide w2 x v wd hz')
            have HBD := Lib.hid HBL.out.drew
            have d1 : wr.drew.cell? ⟨g, o + j * 4 + 1, none⟩ = some (.int .u64 v) := c1
            have d2 : wr.drew.cell? ⟨g, o + j * 4 + 2, none⟩ = some (.int .i64 wd) := c2
            clear HR HWR HBL c0 c1 c2 c3 hgr
            revert HWD HBD d1 d2
            generalize wr.drew = w3
            intro HWD HBD d1 d2
            go_wp2_with fail
            go_region_held3 (fun w' => w'.cell? ⟨g, o + j * 4 + 1, none⟩ = some (.int .u64 v) ∧ w'.cell? ⟨g, o + j * 4 + 2, none⟩ = some (.int .i64 wd)) (first | exact ⟨d1, d2⟩) (first | (go_at_call 11; refine (HP _).out.mono ?_; rintro e w4 ⟨rfl, rfl⟩))
            have HW4 := Lib.hid (HWD.out.below ((Still.refl w3).drew.below _))
            have HBL4 := Lib.hid HBD.out.drew
            have hsz := bchars_size B
            clear HWD HBD HP
            go_wp2_with fail
            refine (len_ok _ x _ HW4.out).mono ?_
            rintro e w' ⟨rfl, rfl⟩
            go_wp2_with fail
            go_roundw
            case rel => exact rel_next hlt HW4.out HBL4.out (by omega)
            case measure => simp [intOf]; omega
        · by_cases hw1 : what = 1
          · subst hw1
            go_wp2_with fail
            refine (ralignS_ok wr B (by omega)).mono ?_
            rintro e w2 ⟨rfl, hb2⟩
            have HW2 := Lib.hid (HWR.out.below hb2)
            have HBL2 := Lib.hid (HBL.out.trans (hb2.mono hbs))
            have hbs2 := HBL2.out.size
            clear hb2 HWR HBL c0 c1 c2 c3
            go_wp2_with fail
            refine (align_ok w2 x B HW2.out (by omega)).mono ?_
            rintro e w3 ⟨rfl, hw3, ho3⟩
            have HW3 := Lib.hid hw3
            have HBL3 := Lib.hid (HBL2.out.trans (ho3.below hsa hbs2))
            clear hw3 ho3 HW2 HBL2
            have hsz := bchars_size (padded B)
            go_wp2_with fail
            refine (len_ok w3 x _ HW3.out).mono ?_
            rintro e w' ⟨rfl, rfl⟩
            go_wp2_with fail
            go_roundw
            case rel => exact rel_next hlt HW3.out HBL3.out (by rw [padded_length]; omega)
            case measure => simp [intOf]; omega
          · have hn0 : (what == 0) = false := by simpa using hw0
            have hn1 : (what == 1) = false := by simpa using hw1
            have hsl : SlAt wr (.slice sa b.length scap) b := HOK.out.1.below HBL.out
            go_wp2_with fail
            refine (rocts_sl wr B _ b hsl (by omega) (by omega)).mono ?_
            rintro e w2 ⟨rfl, hb2⟩
            have hgr : g < wr.heap.size := Nat.lt_of_lt_of_le hgw hbs
            have d0 := cell_below hb2 hgr c0
            have d1 := cell_below hb2 hgr c1
            have d2 := cell_below hb2 hgr c2
            have d3 := cell_below hb2 hgr c3
            have HW2 := Lib.hid (HWR.out.below hb2)
            have HBL2 := Lib.hid (HBL.out.trans (hb2.mono hbs))
            have hsl2 := hsl.below hb2
            have hbs2 := HBL2.out.size
            clear hb2 HWR HBL c0 c1 c2 c3 hsl hgr
            go_wp2_with fail
            refine (woctets_sl w2 x B _ b HW2.out hsl2 (fun g' o' cap' e hne => by have := sl_lt HOK.out.1 e hne; omega) (by omega) (by omega)).mono ?_
            rintro e w3 ⟨rfl, hw3, ho3⟩
            have HW3 := Lib.hid hw3
            have HBL3 := Lib.hid (HBL2.out.trans (ho3.below hsa hbs2))
            clear hw3 ho3 HW2 HBL2 hsl2
            have hsz := bchars_size (B ++ bitsOf b)
            go_wp2_with fail
            refine (len_ok w3 x _ HW3.out).mono ?_
            rintro e w' ⟨rfl, rfl⟩
            go_wp2_with fail
            go_roundw
            case rel => exact rel_next hlt HW3.out HBL3.out (by rw [List.length_append, bitsOf_length]; omega)
            case measure => simp [intOf]; omega
    · obtain rfl : j = len := by omega
      go_wp2_with fail
      refine (wbytes_any wr x B HWR.out (by omega)).mono ?_
      rintro e w2 ⟨rfl, hr2, hb2⟩
      have HSL2 := Lib.hid (sl_of_row hr2 (wb_lt _) rfl)
      have HBL2 := Lib.hid (HBL.out.trans (hb2.mono hbs))
      have hbs2 := HBL2.out.size
      clear hr2 hb2 HWR HBL
      go_wp2_with fail
      refine (rbytes_any w2 B (by omega)).mono ?_
      rintro e w3 ⟨v3, rfl, hs3, hb3⟩
      have HSL3 := Lib.hid (HSL2.out.below hb3)
      have HS3 := Lib.hid hs3
      have HBL3 := Lib.hid (HBL2.out.trans (hb3.mono hbs2))
      clear hs3 hb3 HSL2 HBL2
      go_wp2_with fail
      refine (same_yes w3 _ _ (wb B) HSL3.out HS3.out).mono ?_
      rintro e w4 ⟨rfl, rfl⟩
      go_wp2_with fail
      go_ret
      exact ⟨rfl, HBL3.out⟩

theorem walk (w : World) (a0 : Option Addr) (len0 cap0 : Nat) (w0 : ∃ ops, OpsIn w a0 len0 ops) :
    Calls Try.prog 3 #[.slice a0 len0 cap0] w fun e w' => e = .returned (.bool true) ∧ Below w.heap.size w w' := by
  obtain ⟨ops, hops⟩ := w0
  by_cases h : (100 : Int) < len0
  · exact walk_long w a0 len0 cap0 h
  · exact walk_main w a0 len0 cap0 ops hops (by omega)

set_option maxRecDepth 100000 in
theorem lifted (os : Os) (started : os.Started) (H : Type) (enc : TypeId × Value → H) :
    ReturnsInHanded {} Try.checked os 3 .any (Rows.streamWritesSpec.pre6 enc Try.prog Try.f3 Rows.streamWritesRow.domain false) (Rows.streamWritesSpec.post enc Try.prog Try.f3 false true false false) := by
  refine returnsInHanded_of_change (C := Try.checked) own started (by kernel_rfl) Try.func3
    (ChangeSpec.witness6 (enc := enc) (C := Try.checked) false ⟨#[], #[.slice none 0 0], []⟩ 8 (by kernel_rfl) (by kernel_rfl) (by kernel_rfl) (by kernel_rfl)) ?_
  intro W base args ds gs before hval0 hW hcnd _
  have hval : ∀ (j : Nat) t v, Try.f3.params[j]? = some t → args[j]? = some v → Value.okWide Try.prog W .any base t v := hval0
  have hW' := hW
  obtain ⟨p, q, hA0, hV, rfl, hfz, hnd⟩ := hW
  have hA : DataW.TrodAll enc Try.prog W 0 (fun _ => true) true Try.f3.params.toList args.toList ds p := hA0
  rw [Try.params3] at hA hval
  obtain ⟨v0, vs0, d0, ds0, p0, q0, hargs, rfl, rfl, h0, r0⟩ := trodAll_cons hA
  obtain ⟨rfl, rfl, rfl⟩ := trodAll_nil r0
  obtain rfl : args = #[v0] := by cases args; simp_all
  obtain ⟨rfl, rfl⟩ := trodVars_none hV
  obtain ⟨a0, len0, cap0, rfl⟩ := okWide_slice Try.underlying22 (hval 0 22 v0 rfl rfl)
  have k0 := h0
  have lt0 : ∀ x ∈ p0, x.block < W.heap.size := by obtain ⟨m, hm⟩ := k0; exact DataW.trod_lt m _ _ _ hm
  have w0 := open_ops h0
  clear hA0 hval0
  refine (walk W a0 len0 cap0 w0).mono fun e W' ⟨he, bel⟩ => ?_
  subst he
  exact ⟨_, rfl, _, _, _, [], _, [], hW', trodAll_mk1 (shut_bool Try.underlying4 _), (trodAll_cons_mk (Below.trod laidOut (by kernel_rfl) (of_decide_eq_true (by kernel_rfl)) k0 bel lt0) trodAll_mk0), rfl, bel.frame _, fun h => by cases h⟩

theorem over : Rows.streamWritesRow.holds Try.pinned (OpenSpec.ofChange Rows.streamWritesSpec) :=
  OpenClaim.holds_of_wide 3 Try.f3 rfl rfl rfl rfl rfl rfl rfl ⟨rfl, rfl, rfl, rfl, rfl⟩ rfl rfl rfl rfl rfl (by kernel_rfl) Try.func3 (by kernel_rfl)
    (of_decide_eq_true (by kernel_rfl)) (by unfold Func.isWrapper; first | (rw [if_pos (by decide +kernel)]; kernel_rfl) | (rw [if_neg (by decide +kernel)]; exact ⟨rfl, rfl⟩))
    (fun os started H enc _ => lifted os started H enc)

theorem proved : Rows.StreamWritesSaid := over
end Go.Proofs.Ytekoilcjghclcaa.streamWrites
