/-
  Proved: the statement LengthBack (what was put is got, in as many bits, behind any bits; of a length in fragments what was told), for every input; no further condition.
-/
import Derived.Test.YtebmmfhkgglkgaaRows
import Derived.Test.YtebmmfhkgglkgaaLLaw
import Derived.Test.YtebmmfhkgglkgaaLGet
import Derived.ProofKit
import Derived.OpenShut
import Derived.ShutString
import Derived.ChangeOld
namespace Go.Proofs.Ytebmmfhkgglkgaa.lengthBack
open Go.ChangeShapes Go.WideShapes Go.ChangeAt Go.RowKit
open Go.ChangeMaps (open_string shut_string)
set_option linter.unusedVariables false
set_option linter.unusedSimpArgs false
set_option maxRecDepth 100000

theorem own : ownKnob Try.prog.godebug = none := by kernel_rfl
theorem laidOut : laidOutB Try.prog = true := by kernel_rfl

theorem i64_and16383 (n : Int) : bits .and .i64 n 16383 = n % 16384 := by
  have h7 : (BitVec.ofInt 64 16383).toNat = 2 ^ 14 - 1 := by decide
  have key : (BitVec.ofInt 64 n &&& BitVec.ofInt 64 16383).toNat = (n % ((2 ^ 64 : Nat) : Int)).toNat % 2 ^ 14 := by
    rw [BitVec.toNat_and, BitVec.toNat_ofInt, h7, Nat.and_two_pow_sub_one_eq_mod]
  show IntKind.i64.wrap ((BitVec.ofInt 64 n &&& BitVec.ofInt 64 16383).toNat : Nat) = n % 16384
  rw [key, IntKind.wrap_i64]
  omega
/-- what was told: a fragment, or all of it -/
theorem told {n lo hi : Int} (he : lErr n lo hi = 0) : (lMore n lo hi = true ∧ 0 < lCnt n lo hi ∧ lCnt n lo hi ≤ n ∧ bits .and .i64 (lCnt n lo hi) 16383 = 0) ∨ (lMore n lo hi = false ∧ lCnt n lo hi = n) := by
  obtain ⟨z1, z2, z3⟩ := lErr_zero he
  by_cases hh : 0 ≤ hi ∧ hi ≤ 65535
  · obtain ⟨_, p2, p3⟩ := lPut_nar he hh false []
    exact .inr ⟨p3, p2⟩
  · obtain ⟨_, p2, p3⟩ := lPut_form he hh false []
    rcases Classical.em (16384 ≤ n) with h | h
    · obtain ⟨m, m1, m4, hm, _⟩ := lfst_frag (n := n.toNat) (by omega)
      have hle := (lfst_le n.toNat).1
      refine .inl ⟨by rw [p3]; exact decide_eq_true h, ?_, ?_, ?_⟩
      · rw [p2, hm]; omega
      · rw [p2]; omega
      · rw [p2, i64_and16383, hm]; omega
    · refine .inr ⟨by rw [p3]; exact decide_eq_false h, ?_⟩
      rw [p2, lfst_small (by omega)]
      omega
theorem lBits_pre (al : Bool) (B : List Bool) (n lo hi : Int) : ∃ S, lBits al B n lo hi = B ++ S := by
  unfold lBits
  split
  · split
    · unfold wBits
      split
      · exact putW_pre al B _ _
      · exact ⟨[], by simp⟩
    · unfold putF
      cases al
      · exact ⟨_, rfl⟩
      · exact ⟨_, by rw [lead_true, padded_gap, List.append_assoc]⟩
  · exact ⟨[], by simp⟩
set_option maxHeartbeats 2000000 in
/-- where nothing was put -/
theorem walk_bad (w : World) (k : Int) (al : Bool) (n lo hi : Int) (b1 : -9223372036854775808 ≤ n ∧ n ≤ 9223372036854775807) (b2 : -9223372036854775808 ≤ lo ∧ lo ≤ 9223372036854775807) (b3 : -9223372036854775808 ≤ hi ∧ hi ≤ 9223372036854775807) (hne : lErr n lo hi ≠ 0) :
    Calls Try.prog 5 #[.int .i64 k, .bool al, .int .i64 n, .int .i64 lo, .int .i64 hi] w fun e w' => e = .returned (.bool true) ∧ Below w.heap.size w w' := by
  obtain ⟨n1, n2⟩ := ne_facts hne
  have HLB := Lib.hid (fun B => lPut_bad hne al B)
  clear hne
  go_enter Try.func5, Try.ntmps5
  go_wp2_with fail
  refine (lawake _).mono ?_
  rintro e w1 ⟨rfl, hb⟩
  have HB := Lib.hid hb
  clear hb
  go_wp2_with fail
  refine (lahead_ok k w1).mono ?_
  rintro e w2 ⟨b, m, hm, hmk, rfl, hbw, hw, hb⟩
  have H1 := Lib.hid (HB.out.trans (hb.mono HB.out.size))
  have H2 := Lib.hid hw
  have hbw' : w.heap.size ≤ b := by have := HB.out.size; omega
  have hlen : (List.replicate m true).length ≤ 1000000 := by rw [List.length_replicate]; omega
  clear hb hw hbw HB hmk
  generalize List.replicate m true = B at *
  have HP := Lib.hid (lput_any w2 b B al n lo hi H2.out b1 b2 b3 (by omega))
  rw [(HLB.out B).1, (HLB.out B).2.1, (HLB.out B).2.2] at HP
  generalize lErr n lo hi = er at *
  go_wp2_with fail
  refine (len_ok w2 b B H2.out).mono ?_
  rintro e w3 ⟨rfl, rfl⟩
  go_wp2_with fail
  refine HP.out.mono ?_
  rintro e w3 ⟨rfl, h1, h2⟩
  have H3 := Lib.hid h1
  have H4 := Lib.hid (H1.out.trans (h2.below hbw' H1.out.size))
  clear h1 h2 H1 H2 HP
  go_wp2_with fail
  refine (len_ok w3 b B H3.out).mono ?_
  rintro e w4 ⟨rfl, rfl⟩
  go_wp2_with fail
  go_ret
  exact ⟨rfl, H4.out⟩
set_option maxHeartbeats 8000000 in
theorem walk_good (w : World) (k : Int) (al : Bool) (n lo hi : Int) (b1 : -9223372036854775808 ≤ n ∧ n ≤ 9223372036854775807) (b2 : -9223372036854775808 ≤ lo ∧ lo ≤ 9223372036854775807) (b3 : -9223372036854775808 ≤ hi ∧ hi ≤ 9223372036854775807) (her : lErr n lo hi = 0) :
    Calls Try.prog 5 #[.int .i64 k, .bool al, .int .i64 n, .int .i64 lo, .int .i64 hi] w fun e w' => e = .returned (.bool true) ∧ Below w.heap.size w w' := by
  have HT := Lib.hid (told her)
  have HBK := Lib.hid (fun L B h => len_back al L B n lo hi her b1.2 h)
  go_enter Try.func5, Try.ntmps5
  go_wp2_with fail
  refine (lawake _).mono ?_
  rintro e w1 ⟨rfl, hb⟩
  have HB := Lib.hid hb
  clear hb
  go_wp2_with fail
  refine (lahead_ok k w1).mono ?_
  rintro e w2 ⟨b, m, hm, hmk, rfl, hbw, hw, hb⟩
  have H1 := Lib.hid (HB.out.trans (hb.mono HB.out.size))
  have H2 := Lib.hid hw
  have hbw' : w.heap.size ≤ b := by have := HB.out.size; omega
  have hlen : (List.replicate m true).length ≤ 64 := by rw [List.length_replicate]; omega
  clear hb hw hbw HB hmk
  generalize List.replicate m true = B at *
  have HP := Lib.hid (lput_any w2 b B al n lo hi H2.out b1 b2 b3 (by omega))
  rw [her] at HP
  have hle := lBits_le al B n lo hi b1 b2 b3
  have hbk := HBK.out (wb (lBits al B n lo hi)) B (by obtain ⟨t, ht, _⟩ := wb_bits (lBits al B n lo hi); exact ⟨_, ht⟩)
  have hB0 : gerr (wb (lBits al B n lo hi)) 0 B.length = 0 ∧ gpos (wb (lBits al B n lo hi)) 0 B.length = B.length := by
    obtain ⟨S, hS⟩ := lBits_pre al B n lo hi
    obtain ⟨g1, g2, g3⟩ := get_has (Has.wb (W := lBits al B n lo hi) (A := []) (S := B) (R := S) (by rw [hS]; rfl)) 0 B.length rfl rfl hlen
    exact ⟨g1, by rw [g3]; omega⟩
  have hL : (wb (lBits al B n lo hi)).length ≤ 1000000 := by
    unfold wb
    split
    · simp
    · rw [octs_length]; omega
  have hW : (lBits al B n lo hi).length ≤ 100000 := by omega
  obtain ⟨ge, gn, gm, gp⟩ := hbk
  clear HBK her hle
  generalize lBits al B n lo hi = W at *
  have htl : (lMore n lo hi = true ∧ decide (0 < lCnt n lo hi) = true ∧ decide (lCnt n lo hi ≤ n) = true ∧ bits .and .i64 (lCnt n lo hi) 16383 = 0) ∨ (lMore n lo hi = false ∧ lCnt n lo hi = n) := by
    rcases HT.out with ⟨t1, t2, t3, t4⟩ | ⟨t1, t2⟩
    · exact .inl ⟨t1, decide_eq_true t2, decide_eq_true t3, t4⟩
    · exact .inr ⟨t1, t2⟩
  clear HT
  have HGT := Lib.hid (fun w r s h => lget_any w r (s := s) (wb W) B.length al lo hi h (by omega) b2 b3)
  rw [ge, gn, gm, gp] at HGT
  clear ge gn gm gp
  generalize lMore n lo hi = more at *
  generalize lCnt n lo hi = a at *
  go_wp2_with fail
  refine (len_ok w2 b B H2.out).mono ?_
  rintro e w3 ⟨rfl, rfl⟩
  go_wp2_with fail
  refine HP.out.mono ?_
  rintro e w3 ⟨rfl, h1, h2⟩
  have H3 := Lib.hid h1
  have H4 := Lib.hid (H1.out.trans (h2.below hbw' H1.out.size))
  clear h1 h2 H1 H2 HP
  go_wp2_with fail
  refine (wbytes_any w3 b W H3.out (by omega)).mono ?_
  rintro e w4 ⟨rfl, hr, hb⟩
  have HS := Lib.hid (sl_of_row hr (wb_lt W) rfl)
  have H5 := Lib.hid (H3.out.below hb)
  have H6 := Lib.hid (H4.out.trans (hb.mono H4.out.size))
  clear hr hb H3 H4
  generalize wb W = L at *
  go_wp2_with fail
  refine (new_ok w4 _ L HS.out (by omega)).mono ?_
  rintro e w5 ⟨s, r, rfl, hr1, hrd1, hb1⟩
  have H7 := Lib.hid (H5.out.below hb1)
  have H8 := Lib.hid (H6.out.trans (hb1.mono H6.out.size))
  have HR := Lib.hid hrd1
  have hbr : b ≠ r := by have := H5.out.lt; omega
  have hrw : w.heap.size ≤ r := by have := H6.out.size; omega
  clear hr1 hrd1 hb1 H5 H6 HS
  go_wp2_with fail
  have HG := get_any w5 r L 0 B.length HR.out (by omega)
  rw [hB0.2] at HG
  refine HG.mono ?_
  rintro e w6 ⟨rfl, h1, h2⟩
  have HR2 := Lib.hid h1
  have H9 := Lib.hid (H7.out.keep h2 hbr (HR.out.no_wr _))
  have H10 := Lib.hid (H8.out.trans (h2.below hrw H8.out.size))
  clear h1 h2 H7 H8 HR HG hB0
  generalize gval L 0 B.length = gv at *
  generalize gerr L 0 B.length = gr at *
  go_wp2_with fail
  refine (HGT.out w6 r s HR2.out).mono ?_
  rintro e w7 ⟨rfl, h1, h2⟩
  have HR3 := Lib.hid h1
  have H11 := Lib.hid (H9.out.keep h2 hbr (HR2.out.no_wr _))
  have H12 := Lib.hid (H10.out.trans (h2.below hrw H10.out.size))
  clear h1 h2 H9 H10 HR2 HGT
  rcases htl with ⟨rfl, t2, t3, t4⟩ | ⟨rfl, rfl⟩
  all_goals
    go_wp2_with fail
    refine (pos_ok w7 r L _ HR3.out).mono ?_
    rintro e w8 ⟨rfl, rfl⟩
    go_wp2_with fail
    refine (len_ok w7 b _ H11.out).mono ?_
    rintro e w8 ⟨rfl, rfl⟩
    go_wp2_with fail
    go_ret
    exact ⟨rfl, H12.out⟩
theorem walk (w : World) (k : Int) (w0 : (Lit.int .i64 k).wf = true) (al : Bool) (n : Int) (w1 : (Lit.int .i64 n).wf = true) (lo : Int) (w2 : (Lit.int .i64 lo).wf = true) (hi : Int) (w3 : (Lit.int .i64 hi).wf = true) :
    Calls Try.prog 5 #[.int .i64 k, .bool al, .int .i64 n, .int .i64 lo, .int .i64 hi] w fun e w' => e = .returned (.bool true) ∧ Below w.heap.size w w' := by
  have b1 := i64_bounds w1
  have b2 := i64_bounds w2
  have b3 := i64_bounds w3
  by_cases h1 : lErr n lo hi = 0
  · exact walk_good w k al n lo hi b1 b2 b3 h1
  · exact walk_bad w k al n lo hi b1 b2 b3 h1

set_option maxRecDepth 100000 in
theorem lifted (os : Os) (started : os.Started) (H : Type) (enc : TypeId × Value → H) :
    ReturnsInHanded {} Try.checked os 5 .any (Rows.lengthBackSpec.pre6 enc Try.prog Try.f5 Rows.lengthBackRow.domain false) (Rows.lengthBackSpec.post enc Try.prog Try.f5 false true false false) := by
  refine returnsInHanded_of_change (C := Try.checked) own started (by kernel_rfl) Try.func5
    (ChangeSpec.witness6 (enc := enc) (C := Try.checked) false ⟨#[], #[.int .i64 0, .bool false, .int .i64 0, .int .i64 0, .int .i64 0], []⟩ 8 (by kernel_rfl) (by kernel_rfl) (by kernel_rfl) (by kernel_rfl)) ?_
  intro W base args ds gs before hval0 hW hcnd _
  have hval : ∀ (j : Nat) t v, Try.f5.params[j]? = some t → args[j]? = some v → Value.okWide Try.prog W .any base t v := hval0
  have hW' := hW
  obtain ⟨p, q, hA0, hV, rfl, hfz, hnd⟩ := hW
  have hA : DataW.TrodAll enc Try.prog W 0 (fun _ => true) true Try.f5.params.toList args.toList ds p := hA0
  rw [Try.params5] at hA hval
  obtain ⟨v0, vs0, d0, ds0, p0, q0, hargs, rfl, rfl, h0, r0⟩ := trodAll_cons hA
  obtain ⟨v1, vs1, d1, ds1, p1, q1, rfl, rfl, rfl, h1, r1⟩ := trodAll_cons r0
  obtain ⟨v2, vs2, d2, ds2, p2, q2, rfl, rfl, rfl, h2, r2⟩ := trodAll_cons r1
  obtain ⟨v3, vs3, d3, ds3, p3, q3, rfl, rfl, rfl, h3, r3⟩ := trodAll_cons r2
  obtain ⟨v4, vs4, d4, ds4, p4, q4, rfl, rfl, rfl, h4, r4⟩ := trodAll_cons r3
  obtain ⟨rfl, rfl, rfl⟩ := trodAll_nil r4
  obtain rfl : args = #[v0, v1, v2, v3, v4] := by cases args; simp_all
  obtain ⟨rfl, rfl⟩ := trodVars_none hV
  obtain ⟨a0, rfl, rfl, rfl, w0⟩ := open_int Try.underlying3 (hval 0 3 v0 rfl rfl) h0
  obtain ⟨a1, rfl, rfl, rfl⟩ := open_bool Try.underlying4 (hval 1 4 v1 rfl rfl) h1
  obtain ⟨a2, rfl, rfl, rfl, w2⟩ := open_int Try.underlying3 (hval 2 3 v2 rfl rfl) h2
  obtain ⟨a3, rfl, rfl, rfl, w3⟩ := open_int Try.underlying3 (hval 3 3 v3 rfl rfl) h3
  obtain ⟨a4, rfl, rfl, rfl, w4⟩ := open_int Try.underlying3 (hval 4 3 v4 rfl rfl) h4
  clear hA0 hval0
  refine (walk W a0 w0 a1 a2 w2 a3 w3 a4 w4).mono fun e W' ⟨he, bel⟩ => ?_
  subst he
  exact ⟨_, rfl, _, _, _, [], _, [], hW', trodAll_mk1 (shut_bool Try.underlying4 _), (trodAll_cons_mk (shut_int Try.underlying3 w0) (trodAll_cons_mk (shut_bool Try.underlying4 a1) (trodAll_cons_mk (shut_int Try.underlying3 w2) (trodAll_cons_mk (shut_int Try.underlying3 w3) (trodAll_cons_mk (shut_int Try.underlying3 w4) trodAll_mk0))))), rfl, bel.frame _, fun h => by cases h⟩

theorem over : Rows.lengthBackRow.holds Try.pinned (OpenSpec.ofChange Rows.lengthBackSpec) :=
  OpenClaim.holds_of_wide 5 Try.f5 rfl rfl rfl rfl rfl rfl rfl ⟨rfl, rfl, rfl, rfl, rfl⟩ rfl rfl rfl rfl rfl (by kernel_rfl) Try.func5 (by kernel_rfl)
    (of_decide_eq_true (by kernel_rfl)) (by unfold Func.isWrapper; first | (rw [if_pos (by decide +kernel)]; kernel_rfl) | (rw [if_neg (by decide +kernel)]; exact ⟨rfl, rfl⟩))
    (fun os started H enc _ => lifted os started H enc)

theorem proved : Rows.LengthBackSaid := over
end Go.Proofs.Ytebmmfhkgglkgaa.lengthBack
