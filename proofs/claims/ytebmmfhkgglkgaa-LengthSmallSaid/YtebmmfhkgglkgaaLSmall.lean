/-
  Proved: the statement LengthSmall (any number from 0 on that is small as a rule is got as it was put; below 64 in seven bits), for every input; no further condition.
-/
import Derived.Test.YtebmmfhkgglkgaaRows
import Derived.Test.YtebmmfhkgglkgaaLLaw
import Derived.Test.YtebmmfhkgglkgaaLGet
import Derived.ProofKit
import Derived.OpenShut
import Derived.ShutString
import Derived.ChangeOld
namespace Go.Proofs.Ytebmmfhkgglkgaa.lengthSmall
open Go.ChangeShapes Go.WideShapes Go.ChangeAt Go.RowKit
open Go.ChangeMaps (open_string shut_string)
set_option linter.unusedVariables false
set_option linter.unusedSimpArgs false
set_option maxRecDepth 100000

theorem own : ownKnob Try.prog.godebug = none := by kernel_rfl
theorem laidOut : laidOutB Try.prog = true := by kernel_rfl

theorem sBits_pre (al : Bool) (B : List Bool) (n : Int) : ∃ S, sBits al B n = B ++ S := by
  unfold sBits
  split
  · exact ⟨[], by simp⟩
  · split
    · exact ⟨_, rfl⟩
    · unfold lgBits putF
      cases al
      · exact ⟨_, by rw [lead_false, List.append_assoc, List.append_assoc]⟩
      · exact ⟨_, by rw [lead_true, padded_gap, List.append_assoc, List.append_assoc, List.append_assoc]⟩
set_option maxHeartbeats 2000000 in
theorem walk_bad (w : World) (k : Int) (al : Bool) (n : Int) (b1 : -9223372036854775808 ≤ n ∧ n ≤ 9223372036854775807) (h0 : n < 0) :
    Calls Try.prog 6 #[.int .i64 k, .bool al, .int .i64 n] w fun e w' => e = .returned (.bool true) ∧ Below w.heap.size w w' := by
  have q1 : decide (n < 0) = true := decide_eq_true h0
  have he := sErr_neg h0
  have HSB := Lib.hid (fun B => sBits_neg h0 al B)
  go_enter Try.func6, Try.ntmps6
  go_wp2_with fail
  refine (lawake _).mono ?_
  rintro e w1 ⟨rfl, hb⟩
  have HB := Lib.hid hb
  clear hb
  go_wp2_with fail
  refine (lahead_ok k w1).mono ?_
  rintro e w2 ⟨b, m, hm, hmk, rfl, hbw, hw, hb⟩
  have H1 := Lib.hid (HB.out.trans (hb.mono HB.out.size))
  have H2 := Lib.hid hw
  have hbw' : w.heap.size ≤ b := by have := HB.out.size; omega
  have hlen : (List.replicate m true).length ≤ 1000 := by rw [List.length_replicate]; omega
  clear hb hw hbw HB hmk
  generalize List.replicate m true = B at *
  have HP := Lib.hid (sput_any w2 b B al n H2.out b1 (by omega))
  rw [he, HSB.out] at HP
  clear he
  go_wp2_with fail
  refine (len_ok w2 b B H2.out).mono ?_
  rintro e w3 ⟨rfl, rfl⟩
  go_wp2_with fail
  refine HP.out.mono ?_
  rintro e w3 ⟨rfl, h1, h2⟩
  have H3 := Lib.hid h1
  have H4 := Lib.hid (H1.out.trans (h2.below hbw' H1.out.size))
  clear h1 h2 H1 H2 HP
  go_wp2_with fail
  refine (len_ok w3 b B H3.out).mono ?_
  rintro e w4 ⟨rfl, rfl⟩
  go_wp2_with fail
  go_ret
  exact ⟨rfl, H4.out⟩
set_option maxHeartbeats 8000000 in
theorem walk_good (w : World) (k : Int) (al : Bool) (N : Nat) (b1 : (N : Int) ≤ 9223372036854775807) :
    Calls Try.prog 6 #[.int .i64 k, .bool al, .int .i64 N] w fun e w' => e = .returned (.bool true) ∧ Below w.heap.size w w' := by
  have q1 : decide ((N : Int) < 0) = false := decide_eq_false (by omega)
  have he := sErr_ok (n := N) (by omega)
  have hk7 := i64_and7 k
  go_enter Try.func6, Try.ntmps6
  go_wp2_with fail
  refine (lawake _).mono ?_
  rintro e w1 ⟨rfl, hb⟩
  have HB := Lib.hid hb
  clear hb
  go_wp2_with fail
  refine (lahead_ok k w1).mono ?_
  rintro e w2 ⟨b, m, hm, hmk, rfl, hbw, hw, hb⟩
  rw [← hmk] at hk7
  have H1 := Lib.hid (HB.out.trans (hb.mono HB.out.size))
  have H2 := Lib.hid hw
  have hbw' : w.heap.size ≤ b := by have := HB.out.size; omega
  have hlen : (List.replicate m true).length = m := by rw [List.length_replicate]
  clear hb hw hbw HB hmk
  generalize List.replicate m true = B at *
  have HLE := Lib.hid hlen
  have hl64 : B.length ≤ 64 := by omega
  clear hlen
  have HP := Lib.hid (sput_any w2 b B al N H2.out (by omega) (by omega))
  rw [he] at HP
  have hle := sBits_le al B N b1
  have hbk := small_back al (wb (sBits al B N)) B N (by omega) b1 (by obtain ⟨t, ht, _⟩ := wb_bits (sBits al B N); exact ⟨_, ht⟩)
  rw [Int.toNat_natCast] at hbk
  have hB0 : gerr (wb (sBits al B N)) 0 B.length = 0 ∧ gpos (wb (sBits al B N)) 0 B.length = B.length := by
    obtain ⟨S, hS⟩ := sBits_pre al B N
    obtain ⟨g1, g2, g3⟩ := get_has (Has.wb (W := sBits al B N) (A := []) (S := B) (R := S) (by rw [hS]; rfl)) 0 B.length rfl rfl (by omega)
    exact ⟨g1, by rw [g3]; omega⟩
  have hL : (wb (sBits al B N)).length ≤ 1000000 := by
    unfold wb
    split
    · simp
    · rw [octs_length]; omega
  have hW : (sBits al B N).length ≤ 100000 := by omega
  have h7 : decide ((64 : Int) ≤ (N : Int)) = true ∨ decide ((64 : Int) ≤ (N : Int)) = false ∧ (((sBits al B N).length : Int) == (m : Int) + 7) = true := by
    rcases Classical.em ((64 : Int) ≤ (N : Int)) with h | h
    · exact .inl (decide_eq_true h)
    · refine .inr ⟨decide_eq_false h, ?_⟩
      rw [sBits_small (by omega) (by omega), List.length_append, nb_length]
      have := HLE.out
      simp
      omega
  clear hle he
  generalize sBits al B N = W at *
  have HGT := Lib.hid (fun w r s h => sget_any w r (s := s) (wb W) B.length al h (by omega))
  rw [hbk] at HGT
  clear hbk
  go_wp2_with fail
  refine (len_ok w2 b B H2.out).mono ?_
  rintro e w3 ⟨rfl, rfl⟩
  go_wp2_with fail
  refine HP.out.mono ?_
  rintro e w3 ⟨rfl, h1, h2⟩
  have H3 := Lib.hid h1
  have H4 := Lib.hid (H1.out.trans (h2.below hbw' H1.out.size))
  clear h1 h2 H1 H2 HP
  go_wp2_with fail
  refine (wbytes_any w3 b W H3.out (by omega)).mono ?_
  rintro e w4 ⟨rfl, hr, hb⟩
  have HS := Lib.hid (sl_of_row hr (wb_lt W) rfl)
  have H5 := Lib.hid (H3.out.below hb)
  have H6 := Lib.hid (H4.out.trans (hb.mono H4.out.size))
  clear hr hb H3 H4
  generalize wb W = L at *
  go_wp2_with fail
  refine (new_ok w4 _ L HS.out (by omega)).mono ?_
  rintro e w5 ⟨s, r, rfl, hr1, hrd1, hb1⟩
  have H7 := Lib.hid (H5.out.below hb1)
  have H8 := Lib.hid (H6.out.trans (hb1.mono H6.out.size))
  have HR := Lib.hid hrd1
  have hbr : b ≠ r := by have := H5.out.lt; omega
  have hrw : w.heap.size ≤ r := by have := H6.out.size; omega
  clear hr1 hrd1 hb1 H5 H6 HS
  go_wp2_with fail
  have HG := get_any w5 r L 0 B.length HR.out (by omega)
  rw [hB0.2] at HG
  refine HG.mono ?_
  rintro e w6 ⟨rfl, h1, h2⟩
  have HR2 := Lib.hid h1
  have H9 := Lib.hid (H7.out.keep h2 hbr (HR.out.no_wr _))
  have H10 := Lib.hid (H8.out.trans (h2.below hrw H8.out.size))
  clear h1 h2 H7 H8 HR HG hB0
  generalize gval L 0 B.length = gv at *
  generalize gerr L 0 B.length = gr at *
  go_wp2_with fail
  refine (HGT.out w6 r s HR2.out).mono ?_
  rintro e w7 ⟨rfl, h1, h2⟩
  have HR3 := Lib.hid h1
  have H11 := Lib.hid (H9.out.keep h2 hbr (HR2.out.no_wr _))
  have H12 := Lib.hid (H10.out.trans (h2.below hrw H10.out.size))
  clear h1 h2 H9 H10 HR2 HGT
  rcases h7 with h7 | ⟨h7, h8⟩
  all_goals
    go_wp2_with fail
    refine (pos_ok w7 r L _ HR3.out).mono ?_
    rintro e w8 ⟨rfl, rfl⟩
    go_wp2_with fail
    refine (len_ok w7 b _ H11.out).mono ?_
    rintro e w8 ⟨rfl, rfl⟩
    go_wp2_with (go_at_call 19; refine (len_ok w7 b _ H11.out).mono ?_; rintro e w8 ⟨rfl, rfl⟩)
    go_ret
    exact ⟨rfl, H12.out⟩
theorem walk (w : World) (k : Int) (w0 : (Lit.int .i64 k).wf = true) (al : Bool) (n : Int) (w1 : (Lit.int .i64 n).wf = true) :
    Calls Try.prog 6 #[.int .i64 k, .bool al, .int .i64 n] w fun e w' => e = .returned (.bool true) ∧ Below w.heap.size w w' := by
  have b1 := i64_bounds w1
  by_cases h0 : n < 0
  · exact walk_bad w k al n b1 h0
  · obtain ⟨N, rfl⟩ : ∃ N : Nat, n = N := ⟨n.toNat, by omega⟩
    exact walk_good w k al N b1.2

set_option maxRecDepth 100000 in
theorem lifted (os : Os) (started : os.Started) (H : Type) (enc : TypeId × Value → H) :
    ReturnsInHanded {} Try.checked os 6 .any (Rows.lengthSmallSpec.pre6 enc Try.prog Try.f6 Rows.lengthSmallRow.domain false) (Rows.lengthSmallSpec.post enc Try.prog Try.f6 false true false false) := by
  refine returnsInHanded_of_change (C := Try.checked) own started (by kernel_rfl) Try.func6
    (ChangeSpec.witness6 (enc := enc) (C := Try.checked) false ⟨#[], #[.int .i64 0, .bool false, .int .i64 0], []⟩ 8 (by kernel_rfl) (by kernel_rfl) (by kernel_rfl) (by kernel_rfl)) ?_
  intro W base args ds gs before hval0 hW hcnd _
  have hval : ∀ (j : Nat) t v, Try.f6.params[j]? = some t → args[j]? = some v → Value.okWide Try.prog W .any base t v := hval0
  have hW' := hW
  obtain ⟨p, q, hA0, hV, rfl, hfz, hnd⟩ := hW
  have hA : DataW.TrodAll enc Try.prog W 0 (fun _ => true) true Try.f6.params.toList args.toList ds p := hA0
  rw [Try.params6] at hA hval
  obtain ⟨v0, vs0, d0, ds0, p0, q0, hargs, rfl, rfl, h0, r0⟩ := trodAll_cons hA
  obtain ⟨v1, vs1, d1, ds1, p1, q1, rfl, rfl, rfl, h1, r1⟩ := trodAll_cons r0
  obtain ⟨v2, vs2, d2, ds2, p2, q2, rfl, rfl, rfl, h2, r2⟩ := trodAll_cons r1
  obtain ⟨rfl, rfl, rfl⟩ := trodAll_nil r2
  obtain rfl : args = #[v0, v1, v2] := by cases args; simp_all
  obtain ⟨rfl, rfl⟩ := trodVars_none hV
  obtain ⟨a0, rfl, rfl, rfl, w0⟩ := open_int Try.underlying3 (hval 0 3 v0 rfl rfl) h0
  obtain ⟨a1, rfl, rfl, rfl⟩ := open_bool Try.underlying4 (hval 1 4 v1 rfl rfl) h1
  obtain ⟨a2, rfl, rfl, rfl, w2⟩ := open_int Try.underlying3 (hval 2 3 v2 rfl rfl) h2
  clear hA0 hval0
  refine (walk W a0 w0 a1 a2 w2).mono fun e W' ⟨he, bel⟩ => ?_
  subst he
  exact ⟨_, rfl, _, _, _, [], _, [], hW', trodAll_mk1 (shut_bool Try.underlying4 _), (trodAll_cons_mk (shut_int Try.underlying3 w0) (trodAll_cons_mk (shut_bool Try.underlying4 a1) (trodAll_cons_mk (shut_int Try.underlying3 w2) trodAll_mk0))), rfl, bel.frame _, fun h => by cases h⟩

theorem over : Rows.lengthSmallRow.holds Try.pinned (OpenSpec.ofChange Rows.lengthSmallSpec) :=
  OpenClaim.holds_of_wide 6 Try.f6 rfl rfl rfl rfl rfl rfl rfl ⟨rfl, rfl, rfl, rfl, rfl⟩ rfl rfl rfl rfl rfl (by kernel_rfl) Try.func6 (by kernel_rfl)
    (of_decide_eq_true (by kernel_rfl)) (by unfold Func.isWrapper; first | (rw [if_pos (by decide +kernel)]; kernel_rfl) | (rw [if_neg (by decide +kernel)]; exact ⟨rfl, rfl⟩))
    (fun os started H enc _ => lifted os started H enc)

theorem proved : Rows.LengthSmallSaid := over
end Go.Proofs.Ytebmmfhkgglkgaa.lengthSmall
