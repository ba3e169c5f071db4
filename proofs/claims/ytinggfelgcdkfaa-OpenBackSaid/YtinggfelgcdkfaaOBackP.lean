/-
  Proved: the statement OpenBack (what was put is got, in as many bits, behind any bits), for every input; no further condition.
-/
import Derived.Test.YtinggfelgcdkfaaRows
import Derived.Test.YtinggfelgcdkfaaOpLaw
import Derived.ProofKit
import Derived.OpenShut
import Derived.ShutString
import Derived.ChangeOld
namespace Go.Proofs.Ytinggfelgcdkfaa.openBack
open Go.ChangeShapes Go.WideShapes Go.ChangeAt Go.RowKit
open Go.ChangeMaps (open_string shut_string)
set_option linter.unusedVariables false
set_option linter.unusedSimpArgs false
set_option maxRecDepth 100000

theorem own : ownKnob Try.prog.godebug = none := by kernel_rfl
theorem laidOut : laidOutB Try.prog = true := by kernel_rfl

theorem serr_low (n : Int) (h : mag n < 2 ^ 63) : serr (low (u64n n) (scnt n)) = 0 ∧ sval (low (u64n n) (scnt n)) = n := by
  obtain ⟨h1, h2⟩ := snum_low n h
  have h8 := scnt_le n h
  have he : serr (low (u64n n) (scnt n)) = 0 := by
    unfold serr
    rw [if_neg, if_neg (by rw [low_length]; omega)]
    rintro (h0 | h0)
    · exact h2.1 h0
    · rcases h2.2 with h3 | h3
      · exact h0.1 h3
      · exact h3 h0.2
  exact ⟨he, by rw [sval_good he, h1]⟩
theorem back_math (al : Bool) (B : List Bool) (n lo : Int) (b1 : -9223372036854775808 ≤ lo) (b2 : lo ≤ n) (b3 : n ≤ 9223372036854775807) (W1 W2 : List Bool) (h1 : itemB al B (low (n - lo).toNat (cnt (n - lo).toNat)) = W1) (h2 : itemB al W1 (low (u64n n) (scnt n)) = W2) :
    semiR (rdTak (wb W2) (rlF al (wb W2) B.length)) lo = ⟨0, n, W1.length⟩ ∧ anyR (rdTak (wb W2) (rlF al (wb W2) W1.length)) = ⟨0, n, W2.length⟩ ∧ (∃ S, W2 = B ++ S) ∧ W1.length ≤ B.length + 100 ∧ W2.length ≤ B.length + 200 := by
  have hv : (n - lo).toNat < 2 ^ 64 := by omega
  have hc8 := cnt_le _ hv
  have hmg := mag_lt n (by omega) b3
  have hs8 := scnt_le n hmg
  obtain ⟨m, hm, _⟩ := wb_bits W2
  obtain ⟨S1, hS1⟩ := itemB_pre al B (low (n - lo).toNat (cnt (n - lo).toNat))
  obtain ⟨S2, hS2⟩ := itemB_pre al W1 (low (u64n n) (scnt n))
  have l1 := itemB_le al B (low (n - lo).toNat (cnt (n - lo).toNat))
  have l2 := itemB_le al W1 (low (u64n n) (scnt n))
  rw [low_length] at l1 l2
  rw [h1] at l1 hS1
  rw [h2] at l2 hS2
  have t1 := take_back (L := wb W2) (al := al) (B := B) (l := low (n - lo).toNat (cnt (n - lo).toNat)) ⟨S2 ++ List.replicate m false, by rw [h1, hm, hS2, List.append_assoc]⟩ (low_lt _ _) (by rw [low_length]; omega)
  have t2 := take_back (L := wb W2) (al := al) (B := W1) (l := low (u64n n) (scnt n)) ⟨List.replicate m false, by rw [h2, hm]⟩ (low_lt _ _) (by rw [low_length]; omega)
  rw [h1] at t1
  rw [h2] at t2
  obtain ⟨s1, s2⟩ := serr_low n hmg
  refine ⟨?_, ?_, ⟨S1 ++ S2, by rw [hS2, hS1, List.append_assoc]⟩, by omega, by omega⟩
  · rw [t1]
    unfold semiR
    rw [if_pos rfl]
    simp only
    rw [uerr_low _ hv, if_pos rfl, uval_low _ hv, if_neg (by omega)]
    congr 1
    omega
  · rw [t2]
    unfold anyR
    rw [if_pos rfl]
    simp only
    rw [s1, s2]
set_option maxHeartbeats 2000000 in
/-- where nothing was put -/
theorem walk_bad (w : World) (k : Int) (al : Bool) (n lo : Int) (hne : n < lo) :
    Calls Try.prog 5 #[.int .i64 k, .bool al, .int .i64 n, .int .i64 lo] w fun e w' => e = .returned (.bool true) ∧ Below w.heap.size w w' := by
  have q1 : decide (n < lo) = true := decide_eq_true hne
  have HP := Lib.hid (fun w b => oput_semi_low w b al n lo hne)
  clear hne
  go_enter Try.func5, Try.ntmps5
  go_wp2_with fail
  refine (opawake _).mono ?_
  rintro e w1 ⟨rfl, hb⟩
  have HB := Lib.hid hb
  clear hb
  go_wp2_with fail
  refine (opahead_ok k w1).mono ?_
  rintro e w2 ⟨b, m, hm, hmk, rfl, hbw, hw, hb⟩
  have H1 := Lib.hid (HB.out.trans (hb.mono HB.out.size))
  have H2 := Lib.hid hw
  clear hb hw hbw HB hmk
  generalize List.replicate m true = B at *
  go_wp2_with fail
  refine (len_ok w2 b B H2.out).mono ?_
  rintro e w3 ⟨rfl, rfl⟩
  go_wp2_with fail
  refine (HP.out w2 b).mono ?_
  rintro e w3 ⟨rfl, rfl⟩
  go_wp2_with fail
  refine (len_ok w2 b B H2.out).mono ?_
  rintro e w4 ⟨rfl, rfl⟩
  go_wp2_with fail
  go_ret
  exact ⟨rfl, H1.out⟩
set_option maxHeartbeats 8000000 in
theorem walk_good (w : World) (k : Int) (al : Bool) (n lo : Int) (b1 : -9223372036854775808 ≤ lo) (b2 : lo ≤ n) (b3 : n ≤ 9223372036854775807) :
    Calls Try.prog 5 #[.int .i64 k, .bool al, .int .i64 n, .int .i64 lo] w fun e w' => e = .returned (.bool true) ∧ Below w.heap.size w w' := by
  have q1 : decide (n < lo) = false := decide_eq_false (by omega)
  go_enter Try.func5, Try.ntmps5
  go_wp2_with fail
  refine (opawake _).mono ?_
  rintro e w1 ⟨rfl, hb⟩
  have HB := Lib.hid hb
  clear hb
  go_wp2_with fail
  refine (opahead_ok k w1).mono ?_
  rintro e w2 ⟨b, m, hm, hmk, rfl, hbw, hw, hb⟩
  have H1 := Lib.hid (HB.out.trans (hb.mono HB.out.size))
  have H2 := Lib.hid hw
  have hbw' : w.heap.size ≤ b := by have := HB.out.size; omega
  have hlen : (List.replicate m true).length ≤ 64 := by rw [List.length_replicate]; omega
  clear hb hw hbw HB hmk
  generalize List.replicate m true = B at *
  have HP := Lib.hid (oput_semi w2 b B al n lo H2.out b1 b2 b3 (by omega))
  obtain ⟨W1, hW1⟩ : ∃ W1, itemB al B (low (n - lo).toNat (cnt (n - lo).toNat)) = W1 := ⟨_, rfl⟩
  obtain ⟨W2, hW2⟩ : ∃ W2, itemB al W1 (low (u64n n) (scnt n)) = W2 := ⟨_, rfl⟩
  obtain ⟨m1, m2, ⟨S, hS⟩, hl1, hl2⟩ := back_math al B n lo b1 b2 b3 W1 W2 hW1 hW2
  rw [hW1] at HP
  have HA := Lib.hid (fun w h => oput_any_int w b W1 al n h (by omega) b3 (by omega))
  rw [hW2] at HA
  have hB0 : gerr (wb W2) 0 B.length = 0 ∧ gpos (wb W2) 0 B.length = B.length := by
    obtain ⟨g1, g2, g3⟩ := get_has (Has.wb (W := W2) (A := []) (S := B) (R := S) (by rw [hS]; rfl)) 0 B.length rfl rfl hlen
    exact ⟨g1, by rw [g3]; omega⟩
  have hL : (wb W2).length ≤ 1000000 := wb_le (by omega) (by omega)
  have hW : W2.length ≤ 100000 := by omega
  have HGS := Lib.hid (fun w r s h => oget_semi w r (s := s) (wb W2) B.length al lo h (by omega) b1 (by omega))
  have HGA := Lib.hid (fun w r s h => oget_any w r (s := s) (wb W2) W1.length al h (by omega))
  rw [m1] at HGS
  rw [m2] at HGA
  clear m1 m2 hS hW1 hW2 b1 b2 b3
  go_wp2_with fail
  refine (len_ok w2 b B H2.out).mono ?_
  rintro e w3 ⟨rfl, rfl⟩
  go_wp2_with fail
  refine HP.out.mono ?_
  rintro e w3 ⟨rfl, h1, h2⟩
  have H3 := Lib.hid h1
  have H4 := Lib.hid (H1.out.trans (h2.below hbw' H1.out.size))
  clear h1 h2 H1 H2 HP
  go_wp2_with fail
  refine (HA.out w3 H3.out).mono ?_
  rintro e w4 ⟨rfl, h1, h2⟩
  have H5 := Lib.hid h1
  have H6 := Lib.hid (H4.out.trans (h2.below hbw' H4.out.size))
  clear h1 h2 H3 H4 HA
  go_wp2_with fail
  refine (wbytes_any w4 b W2 H5.out (by omega)).mono ?_
  rintro e w5 ⟨rfl, hr, hb⟩
  have HS := Lib.hid (sl_of_row hr (wb_lt W2) rfl)
  have H7 := Lib.hid (H5.out.below hb)
  have H8 := Lib.hid (H6.out.trans (hb.mono H6.out.size))
  clear hr hb H5 H6
  generalize wb W2 = L at *
  go_wp2_with fail
  refine (new_ok w5 _ L HS.out (by omega)).mono ?_
  rintro e w6 ⟨s, r, rfl, hr1, hrd1, hb1⟩
  have H9 := Lib.hid (H7.out.below hb1)
  have H10 := Lib.hid (H8.out.trans (hb1.mono H8.out.size))
  have HR := Lib.hid hrd1
  have hbr : b ≠ r := by have := H7.out.lt; omega
  have hrw : w.heap.size ≤ r := by have := H8.out.size; omega
  clear hr1 hrd1 hb1 H7 H8 HS
  go_wp2_with fail
  have HG := get_any w6 r L 0 B.length HR.out (by omega)
  rw [hB0.2] at HG
  refine HG.mono ?_
  rintro e w7 ⟨rfl, h1, h2⟩
  have HR2 := Lib.hid h1
  have H11 := Lib.hid (H9.out.keep h2 hbr (HR.out.no_wr _))
  have H12 := Lib.hid (H10.out.trans (h2.below hrw H10.out.size))
  clear h1 h2 H9 H10 HR HG hB0
  generalize gval L 0 B.length = gv at *
  generalize gerr L 0 B.length = gr at *
  go_wp2_with fail
  refine (HGS.out w7 r s HR2.out).mono ?_
  rintro e w8 ⟨rfl, h1, h2⟩
  have HR3 := Lib.hid h1
  have H13 := Lib.hid (H11.out.keep h2 hbr (HR2.out.no_wr _))
  have H14 := Lib.hid (H12.out.trans (h2.below hrw H12.out.size))
  clear h1 h2 H11 H12 HR2 HGS
  go_wp2_with fail
  refine (HGA.out w8 r s HR3.out).mono ?_
  rintro e w9 ⟨rfl, h1, h2⟩
  have HR4 := Lib.hid h1
  have H15 := Lib.hid (H13.out.keep h2 hbr (HR3.out.no_wr _))
  have H16 := Lib.hid (H14.out.trans (h2.below hrw H14.out.size))
  clear h1 h2 H13 H14 HR3 HGA
  go_wp2_with fail
  refine (pos_ok w9 r L _ HR4.out).mono ?_
  rintro e w10 ⟨rfl, rfl⟩
  go_wp2_with fail
  refine (len_ok w9 b _ H15.out).mono ?_
  rintro e w10 ⟨rfl, rfl⟩
  go_wp2_with fail
  go_ret
  exact ⟨rfl, H16.out⟩
theorem walk (w : World) (k : Int) (w0 : (Lit.int .i64 k).wf = true) (al : Bool) (n : Int) (w1 : (Lit.int .i64 n).wf = true) (lo : Int) (w2 : (Lit.int .i64 lo).wf = true) :
    Calls Try.prog 5 #[.int .i64 k, .bool al, .int .i64 n, .int .i64 lo] w fun e w' => e = .returned (.bool true) ∧ Below w.heap.size w w' := by
  have b1 := i64_bounds w1
  have b2 := i64_bounds w2
  by_cases h1 : n < lo
  · exact walk_bad w k al n lo h1
  · exact walk_good w k al n lo b2.1 (by omega) b1.2

set_option maxRecDepth 100000 in
theorem lifted (os : Os) (started : os.Started) (H : Type) (enc : TypeId × Value → H) :
    ReturnsInHanded {} Try.checked os 5 .any (Rows.openBackSpec.pre6 enc Try.prog Try.f5 Rows.openBackRow.domain false) (Rows.openBackSpec.post enc Try.prog Try.f5 false true false false) := by
  refine returnsInHanded_of_change (C := Try.checked) own started (by kernel_rfl) Try.func5
    (ChangeSpec.witness6 (enc := enc) (C := Try.checked) false ⟨#[], #[.int .i64 0, .bool false, .int .i64 0, .int .i64 0], []⟩ 8 (by kernel_rfl) (by kernel_rfl) (by kernel_rfl) (by kernel_rfl)) ?_
  intro W base args ds gs before hval0 hW hcnd _
  have hval : ∀ (j : Nat) t v, Try.f5.params[j]? = some t → args[j]? = some v → Value.okWide Try.prog W .any base t v := hval0
  have hW' := hW
  obtain ⟨p, q, hA0, hV, rfl, hfz, hnd⟩ := hW
  have hA : DataW.TrodAll enc Try.prog W 0 (fun _ => true) true Try.f5.params.toList args.toList ds p := hA0
  rw [Try.params5] at hA hval
  obtain ⟨v0, vs0, d0, ds0, p0, q0, hargs, rfl, rfl, h0, r0⟩ := trodAll_cons hA
  obtain ⟨v1, vs1, d1, ds1, p1, q1, rfl, rfl, rfl, h1, r1⟩ := trodAll_cons r0
  obtain ⟨v2, vs2, d2, ds2, p2, q2, rfl, rfl, rfl, h2, r2⟩ := trodAll_cons r1
  obtain ⟨v3, vs3, d3, ds3, p3, q3, rfl, rfl, rfl, h3, r3⟩ := trodAll_cons r2
  obtain ⟨rfl, rfl, rfl⟩ := trodAll_nil r3
  obtain rfl : args = #[v0, v1, v2, v3] := by cases args; simp_all
  obtain ⟨rfl, rfl⟩ := trodVars_none hV
  obtain ⟨a0, rfl, rfl, rfl, w0⟩ := open_int Try.underlying3 (hval 0 3 v0 rfl rfl) h0
  obtain ⟨a1, rfl, rfl, rfl⟩ := open_bool Try.underlying4 (hval 1 4 v1 rfl rfl) h1
  obtain ⟨a2, rfl, rfl, rfl, w2⟩ := open_int Try.underlying3 (hval 2 3 v2 rfl rfl) h2
  obtain ⟨a3, rfl, rfl, rfl, w3⟩ := open_int Try.underlying3 (hval 3 3 v3 rfl rfl) h3
  clear hA0 hval0
  refine (walk W a0 w0 a1 a2 w2 a3 w3).mono fun e W' ⟨he, bel⟩ => ?_
  subst he
  exact ⟨_, rfl, _, _, _, [], _, [], hW', trodAll_mk1 (shut_bool Try.underlying4 _), (trodAll_cons_mk (shut_int Try.underlying3 w0) (trodAll_cons_mk (shut_bool Try.underlying4 a1) (trodAll_cons_mk (shut_int Try.underlying3 w2) (trodAll_cons_mk (shut_int Try.underlying3 w3) trodAll_mk0)))), rfl, bel.frame _, fun h => by cases h⟩

theorem over : Rows.openBackRow.holds Try.pinned (OpenSpec.ofChange Rows.openBackSpec) :=
  OpenClaim.holds_of_wide 5 Try.f5 rfl rfl rfl rfl rfl rfl rfl ⟨rfl, rfl, rfl, rfl, rfl⟩ rfl rfl rfl rfl rfl (by kernel_rfl) Try.func5 (by kernel_rfl)
    (of_decide_eq_true (by kernel_rfl)) (by unfold Func.isWrapper; first | (rw [if_pos (by decide +kernel)]; kernel_rfl) | (rw [if_neg (by decide +kernel)]; exact ⟨rfl, rfl⟩))
    (fun os started H enc _ => lifted os started H enc)

theorem proved : Rows.OpenBackSaid := over
end Go.Proofs.Ytinggfelgcdkfaa.openBack
