/-
  Proved: the statement WholeOrder (not aligned, of two numbers between the same bounds the smaller one's bits, as a number, are the smaller ones), for every input; no further condition.
-/
import Derived.Test.YtieefphfldkbhaaRows
import Derived.Test.YtieefphfldkbhaaWLaw
import Derived.ProofKit
import Derived.OpenShut
import Derived.ShutString
import Derived.ChangeOld
namespace Go.Proofs.Ytieefphfldkbhaa.wholeOrder
open Go.ChangeShapes Go.WideShapes Go.ChangeAt Go.RowKit
open Go.ChangeMaps (open_string shut_string)
set_option linter.unusedVariables false
set_option linter.unusedSimpArgs false

theorem own : ownKnob Try.prog.godebug = none := by kernel_rfl
theorem laidOut : laidOutB Try.prog = true := by kernel_rfl

set_option maxHeartbeats 2000000 in
/-- the first one is refused -/
theorem walk_bad1 (w : World) (n m lo hi : Int) (b0 : -9223372036854775808 ≤ n ∧ n ≤ 9223372036854775807) (b2 : -9223372036854775808 ≤ lo ∧ lo ≤ 9223372036854775807) (b3 : -9223372036854775808 ≤ hi ∧ hi ≤ 9223372036854775807) (hne : wErr n lo hi ≠ 0) :
    Calls Try.prog 9 #[.int .i64 n, .int .i64 m, .int .i64 lo, .int .i64 hi] w fun e w' => e = .returned (.bool true) ∧ Below w.heap.size w w' := by
  obtain ⟨n1, n2⟩ := ne_facts hne
  have HP := Lib.hid (fun w b h => wput_any w b [] false n lo hi h b0 b2 b3 (by decide))
  generalize wErr n lo hi = er at *
  generalize wBits false [] n lo hi = W at *
  clear b0 b2 b3 hne
  go_enter Try.func9, Try.ntmps9
  go_wp2_with fail
  refine (wawake _).mono ?_
  rintro e wa ⟨rfl, hb⟩
  have HB := Lib.hid hb
  clear hb
  go_wp2_with (refine wpList_box_writer rfl rfl rfl 17 rfl rfl (by kernel_rfl) ?_; intro w1 hw1 hb1 hs1; have HW1 := Lib.hid hw1; have HB1 := Lib.hid hb1; clear hw1 hb1)
  obtain ⟨w2, hwe, hw2, hb2, hs2⟩ := second w1
  rw [← hwe]
  have HB2 := Lib.hid hb2
  clear hw2 hb2 hwe
  have HW2 := Lib.hid (HW1.out.below HB2.out)
  refine (HP.out w2 _ HW2.out).mono ?_
  rintro e w3 ⟨rfl, h1, h2⟩
  have hs := HB.out.size
  have H3 := Lib.hid (((HB.out.trans (HB1.out.mono hs)).trans (HB2.out.mono (by omega))).trans (h2.below hs (by omega)))
  clear h1 h2
  go_wp2_with fail
  go_ret
  exact ⟨rfl, H3.out⟩
set_option maxHeartbeats 2000000 in
/-- the second one is refused -/
theorem walk_bad2 (w : World) (n m lo hi : Int) (b0 : -9223372036854775808 ≤ n ∧ n ≤ 9223372036854775807) (b1 : -9223372036854775808 ≤ m ∧ m ≤ 9223372036854775807) (b2 : -9223372036854775808 ≤ lo ∧ lo ≤ 9223372036854775807) (b3 : -9223372036854775808 ≤ hi ∧ hi ≤ 9223372036854775807) (hok : wErr n lo hi = 0) (hne : wErr m lo hi ≠ 0) :
    Calls Try.prog 9 #[.int .i64 n, .int .i64 m, .int .i64 lo, .int .i64 hi] w fun e w' => e = .returned (.bool true) ∧ Below w.heap.size w w' := by
  obtain ⟨n1, n2⟩ := ne_facts hne
  have HP := Lib.hid (fun w b h => wput_any w b [] false n lo hi h b0 b2 b3 (by decide))
  have HQ := Lib.hid (fun w b h => wput_any w b [] false m lo hi h b1 b2 b3 (by decide))
  rw [hok] at HP
  generalize wErr m lo hi = er at *
  generalize wBits false [] n lo hi = W at *
  generalize wBits false [] m lo hi = X at *
  clear b0 b1 b2 b3 hne hok
  go_enter Try.func9, Try.ntmps9
  go_wp2_with fail
  refine (wawake _).mono ?_
  rintro e wa ⟨rfl, hb⟩
  have HB := Lib.hid hb
  clear hb
  go_wp2_with (refine wpList_box_writer rfl rfl rfl 17 rfl rfl (by kernel_rfl) ?_; intro w1 hw1 hb1 hs1; have HW1 := Lib.hid hw1; have HB1 := Lib.hid hb1; clear hw1 hb1)
  obtain ⟨w2, hwe, hw2, hb2, hs2⟩ := second w1
  rw [← hwe]
  have HX2 := Lib.hid hw2
  have HB2 := Lib.hid hb2
  clear hw2 hb2 hwe
  have HW2 := Lib.hid (HW1.out.below HB2.out)
  have hlt := HW1.out.lt
  refine (HP.out w2 _ HW2.out).mono ?_
  rintro e w3 ⟨rfl, h1, h2⟩
  have hs := HB.out.size
  have H3 := Lib.hid (((HB.out.trans (HB1.out.mono hs)).trans (HB2.out.mono (by omega))).trans (h2.below hs (by omega)))
  have HX3 := Lib.hid (HX2.out.keep_wr HW2.out h2 (by omega))
  have hs3 := h2.size
  clear h1 h2
  go_wp2_with fail
  refine (HQ.out w3 _ HX3.out).mono ?_
  rintro e w4 ⟨rfl, h1, h2⟩
  have H4 := Lib.hid (H3.out.trans (h2.below (by omega) (by omega)))
  clear h1 h2
  go_wp2_with fail
  go_ret
  exact ⟨rfl, H4.out⟩
set_option maxHeartbeats 4000000 in
/-- both are put -/
theorem walk_good (w : World) (n m lo hi : Int) (b0 : -9223372036854775808 ≤ n ∧ n ≤ 9223372036854775807) (b1 : -9223372036854775808 ≤ m ∧ m ≤ 9223372036854775807) (b2 : -9223372036854775808 ≤ lo ∧ lo ≤ 9223372036854775807) (b3 : -9223372036854775808 ≤ hi ∧ hi ≤ 9223372036854775807) (hn1 : lo ≤ n) (hn2 : n ≤ hi) (hm1 : lo ≤ m) (hm2 : m ≤ hi) :
    Calls Try.prog 9 #[.int .i64 n, .int .i64 m, .int .i64 lo, .int .i64 hi] w fun e w' => e = .returned (.bool true) ∧ Below w.heap.size w w' := by
  have HP := Lib.hid (fun w b h => wput_any w b [] false n lo hi h b0 b2 b3 (by decide))
  have HQ := Lib.hid (fun w b h => wput_any w b [] false m lo hi h b1 b2 b3 (by decide))
  rw [wErr_ok hn1 hn2, wBits_ok hn1 hn2, putW_small (.inl rfl), List.nil_append] at HP
  rw [wErr_ok hm1 hm2, wBits_ok hm1 hm2, putW_small (.inl rfl), List.nil_append] at HQ
  have hR : (hi - lo).toNat < 2 ^ 64 := by omega
  have h64 := wid_le64 _ hR
  have hw := wid_lt _ hR
  have hv : (n - lo).toNat < 2 ^ wid (hi - lo).toNat := by omega
  have hu : (m - lo).toNat < 2 ^ wid (hi - lo).toNat := by omega
  have hc : (decide (n < m) = true ∧ (n == m) = false ∧ decide ((n - lo).toNat < (m - lo).toNat) = true ∧ (((n - lo).toNat : Int) == ((m - lo).toNat : Int)) = false) ∨
      (decide (n < m) = false ∧ (n == m) = true ∧ decide ((n - lo).toNat < (m - lo).toNat) = false ∧ (((n - lo).toNat : Int) == ((m - lo).toNat : Int)) = true) ∨
      (decide (n < m) = false ∧ (n == m) = false ∧ decide ((n - lo).toNat < (m - lo).toNat) = false ∧ (((n - lo).toNat : Int) == ((m - lo).toNat : Int)) = false) := by
    rcases Int.lt_trichotomy n m with h | h | h
    · exact .inl ⟨decide_eq_true h, by simp; omega, decide_eq_true (by omega), by simp; omega⟩
    · exact .inr (.inl ⟨decide_eq_false (by omega), by simp; omega, decide_eq_false (by omega), by simp; omega⟩)
    · exact .inr (.inr ⟨decide_eq_false (by omega), by simp; omega, decide_eq_false (by omega), by simp; omega⟩)
  clear hw hR b0 b1 b2 b3 hn1 hn2 hm1 hm2
  have hvu : (((n - lo).toNat : Int) == ((m - lo).toNat : Int)) = ((n - lo).toNat == (m - lo).toNat) := by
    rw [Bool.eq_iff_iff]; simp only [beq_iff_eq]; omega
  generalize (n - lo).toNat = v at *
  generalize (m - lo).toNat = u at *
  generalize wid (hi - lo).toNat = k at *
  have hl1 := nb_length v k
  have hl2 := nb_length u k
  obtain ⟨g1, g2⟩ := read_one v k h64 hv
  obtain ⟨g3, g4⟩ := read_one u k h64 hu
  have hb1 := wb_len (W := nb v k) (by omega)
  have hb2 := wb_len (W := nb u k) (by omega)
  clear hv hu
  generalize nb v k = W at *
  generalize nb u k = X at *
  go_enter Try.func9, Try.ntmps9
  go_wp2_with fail
  refine (wawake _).mono ?_
  rintro e wa ⟨rfl, hb⟩
  have HB := Lib.hid hb
  clear hb
  go_wp2_with (refine wpList_box_writer rfl rfl rfl 17 rfl rfl (by kernel_rfl) ?_; intro w1 hw1 hb1 hs1; have HW1 := Lib.hid hw1; have HB1 := Lib.hid hb1; clear hw1 hb1)
  obtain ⟨w2, hwe, hw2, hb2', hs2⟩ := second w1
  rw [← hwe]
  have HX2 := Lib.hid hw2
  have HB2 := Lib.hid hb2'
  clear hw2 hb2' hwe
  have HW2 := Lib.hid (HW1.out.below HB2.out)
  have hlt := HW1.out.lt
  refine (HP.out w2 _ HW2.out).mono ?_
  rintro e w3 ⟨rfl, h1, h2⟩
  have hs := HB.out.size
  have H3 := Lib.hid (((HB.out.trans (HB1.out.mono hs)).trans (HB2.out.mono (by omega))).trans (h2.below hs (by omega)))
  have HX3 := Lib.hid (HX2.out.keep_wr HW2.out h2 (by omega))
  have HW3 := Lib.hid h1
  have hs3 := h2.size
  have hab : wa.heap.size ≠ w1.heap.size := by omega
  clear h1 h2 HW1 HW2 HX2 HB1 HB2 HB
  generalize wa.heap.size = b at *
  have hbx : w.heap.size ≤ w1.heap.size := by omega
  generalize w1.heap.size = x at *
  go_wp2_with fail
  refine (HQ.out w3 _ HX3.out).mono ?_
  rintro e w4 ⟨rfl, h1, h2⟩
  have H4 := Lib.hid (H3.out.trans (h2.below hbx H3.out.size))
  have HW4 := Lib.hid (HW3.out.keep_wr HX3.out h2 hab)
  have HX4 := Lib.hid h1
  clear h1 h2 HP HQ H3 HW3 HX3 hs hs1 hs2 hs3 hlt
  go_wp2_with fail
  refine (wbytes_any w4 b W HW4.out (by omega)).mono ?_
  rintro e w5 ⟨rfl, hr, hb⟩
  have HS := Lib.hid (sl_of_row hr (wb_lt W) rfl)
  have HW5 := Lib.hid (HW4.out.below hb)
  have HX5 := Lib.hid (HX4.out.below hb)
  have H5 := Lib.hid (H4.out.trans (hb.mono H4.out.size))
  clear hr hb H4 HW4 HX4
  generalize wb W = L at *
  go_wp2_with fail
  refine (new_ok w5 _ L HS.out (by omega)).mono ?_
  rintro e w6 ⟨s, r, rfl, hr1, hrd1, hb1'⟩
  have HW6 := Lib.hid (HW5.out.below hb1')
  have HX6 := Lib.hid (HX5.out.below hb1')
  have H6 := Lib.hid (H5.out.trans (hb1'.mono H5.out.size))
  have HR := Lib.hid hrd1
  have hbr : b ≠ r := by have := HW5.out.lt; omega
  have hxr : x ≠ r := by have := HX5.out.lt; omega
  have hrw : w.heap.size ≤ r := by have := H5.out.size; omega
  clear hr1 hrd1 hb1' H5 HW5 HX5 HS
  go_wp2_with fail
  refine (len_ok w6 b W HW6.out).mono ?_
  rintro e w7 ⟨rfl, rfl⟩
  rw [hl1]
  go_wp2_with fail
  have HG := get_any w6 r L 0 k HR.out (by omega)
  rw [g1, g2] at HG
  refine HG.mono ?_
  rintro e w7 ⟨rfl, h1, h2⟩
  have HW7 := Lib.hid (HW6.out.keep h2 hbr (HR.out.no_wr _))
  have HX7 := Lib.hid (HX6.out.keep h2 hxr (HR.out.no_wr _))
  have H7 := Lib.hid (H6.out.trans (h2.below hrw H6.out.size))
  clear h1 h2 HW6 HX6 H6 HR HG g1 g2
  go_wp2_with fail
  refine (wbytes_any w7 x X HX7.out (by omega)).mono ?_
  rintro e w8 ⟨rfl, hr, hb⟩
  have HS := Lib.hid (sl_of_row hr (wb_lt X) rfl)
  have HW8 := Lib.hid (HW7.out.below hb)
  have HX8 := Lib.hid (HX7.out.below hb)
  have H8 := Lib.hid (H7.out.trans (hb.mono H7.out.size))
  clear hr hb H7 HW7 HX7
  generalize wb X = M at *
  go_wp2_with fail
  refine (new_ok w8 _ M HS.out (by omega)).mono ?_
  rintro e w9 ⟨s2, r2, rfl, hr1, hrd1, hb1'⟩
  have HW9 := Lib.hid (HW8.out.below hb1')
  have HX9 := Lib.hid (HX8.out.below hb1')
  have H9 := Lib.hid (H8.out.trans (hb1'.mono H8.out.size))
  have HR := Lib.hid hrd1
  have hbr2 : b ≠ r2 := by have := HW8.out.lt; omega
  have hxr2 : x ≠ r2 := by have := HX8.out.lt; omega
  have hrw2 : w.heap.size ≤ r2 := by have := H8.out.size; omega
  clear hr1 hrd1 hb1' H8 HW8 HX8 HS
  go_wp2_with fail
  refine (len_ok w9 x X HX9.out).mono ?_
  rintro e w10 ⟨rfl, rfl⟩
  rw [hl2]
  go_wp2_with fail
  have HG := get_any w9 r2 M 0 k HR.out (by omega)
  rw [g3, g4] at HG
  refine HG.mono ?_
  rintro e w10 ⟨rfl, h1, h2⟩
  have HW10 := Lib.hid (HW9.out.keep h2 hbr2 (HR.out.no_wr _))
  have HX10 := Lib.hid (HX9.out.keep h2 hxr2 (HR.out.no_wr _))
  have H10 := Lib.hid (H9.out.trans (h2.below hrw2 H9.out.size))
  clear h1 h2 HW9 HX9 H9 HR HG g3 g4
  have HL1 := Lib.hid (len_ok w10 b W HW10.out)
  have HL2 := Lib.hid (len_ok w10 x X HX10.out)
  rw [hl1] at HL1
  rw [hl2] at HL2
  clear hl1 hl2
  rcases hc with ⟨c1, c2, c3, c4⟩ | ⟨c1, c2, c3, c4⟩ | ⟨c1, c2, c3, c4⟩
  all_goals
    have c5 := hvu.symm.trans c4
    have c6 : decide ((v : Int) < (u : Int)) = decide (v < u) := by simp
    clear hvu
    go_wp2_with fail
    refine HL1.out.mono ?_
    rintro e w11 ⟨rfl, rfl⟩
    go_wp2_with fail
    refine HL2.out.mono ?_
    rintro e w11 ⟨rfl, rfl⟩
    go_wp2_with fail
    go_ret
    exact ⟨rfl, H10.out⟩
theorem walk (w : World) (n : Int) (w0 : (Lit.int .i64 n).wf = true) (m : Int) (w1 : (Lit.int .i64 m).wf = true) (lo : Int) (w2 : (Lit.int .i64 lo).wf = true) (hi : Int) (w3 : (Lit.int .i64 hi).wf = true) :
    Calls Try.prog 9 #[.int .i64 n, .int .i64 m, .int .i64 lo, .int .i64 hi] w fun e w' => e = .returned (.bool true) ∧ Below w.heap.size w w' := by
  have b0 := i64_bounds w0
  have b1 := i64_bounds w1
  have b2 := i64_bounds w2
  have b3 := i64_bounds w3
  by_cases h1 : lo ≤ n ∧ n ≤ hi
  · by_cases h2 : lo ≤ m ∧ m ≤ hi
    · exact walk_good w n m lo hi b0 b1 b2 b3 h1.1 h1.2 h2.1 h2.2
    · exact walk_bad2 w n m lo hi b0 b1 b2 b3 (wErr_ok h1.1 h1.2) (by rw [wErr_con (by omega) (by omega)]; decide)
  · refine walk_bad1 w n m lo hi b0 b2 b3 ?_
    by_cases h2 : hi < lo
    · rw [wErr_arg h2]; decide
    · rw [wErr_con (by omega) (by omega)]; decide

set_option maxRecDepth 100000 in
theorem lifted (os : Os) (started : os.Started) (H : Type) (enc : TypeId × Value → H) :
    ReturnsInHanded {} Try.checked os 9 .any (Rows.wholeOrderSpec.pre6 enc Try.prog Try.f9 Rows.wholeOrderRow.domain false) (Rows.wholeOrderSpec.post enc Try.prog Try.f9 false true false false) := by
  refine returnsInHanded_of_change (C := Try.checked) own started (by kernel_rfl) Try.func9
    (ChangeSpec.witness6 (enc := enc) (C := Try.checked) false ⟨#[], #[.int .i64 0, .int .i64 0, .int .i64 0, .int .i64 0], []⟩ 8 (by kernel_rfl) (by kernel_rfl) (by kernel_rfl) (by kernel_rfl)) ?_
  intro W base args ds gs before hval0 hW hcnd _
  have hval : ∀ (j : Nat) t v, Try.f9.params[j]? = some t → args[j]? = some v → Value.okWide Try.prog W .any base t v := hval0
  have hW' := hW
  obtain ⟨p, q, hA0, hV, rfl, hfz, hnd⟩ := hW
  have hA : DataW.TrodAll enc Try.prog W 0 (fun _ => true) true Try.f9.params.toList args.toList ds p := hA0
  rw [Try.params9] at hA hval
  obtain ⟨v0, vs0, d0, ds0, p0, q0, hargs, rfl, rfl, h0, r0⟩ := trodAll_cons hA
  obtain ⟨v1, vs1, d1, ds1, p1, q1, rfl, rfl, rfl, h1, r1⟩ := trodAll_cons r0
  obtain ⟨v2, vs2, d2, ds2, p2, q2, rfl, rfl, rfl, h2, r2⟩ := trodAll_cons r1
  obtain ⟨v3, vs3, d3, ds3, p3, q3, rfl, rfl, rfl, h3, r3⟩ := trodAll_cons r2
  obtain ⟨rfl, rfl, rfl⟩ := trodAll_nil r3
  obtain rfl : args = #[v0, v1, v2, v3] := by cases args; simp_all
  obtain ⟨rfl, rfl⟩ := trodVars_none hV
  obtain ⟨a0, rfl, rfl, rfl, w0⟩ := open_int Try.underlying3 (hval 0 3 v0 rfl rfl) h0
  obtain ⟨a1, rfl, rfl, rfl, w1⟩ := open_int Try.underlying3 (hval 1 3 v1 rfl rfl) h1
  obtain ⟨a2, rfl, rfl, rfl, w2⟩ := open_int Try.underlying3 (hval 2 3 v2 rfl rfl) h2
  obtain ⟨a3, rfl, rfl, rfl, w3⟩ := open_int Try.underlying3 (hval 3 3 v3 rfl rfl) h3
  clear hA0 hval0
  refine (walk W a0 w0 a1 w1 a2 w2 a3 w3).mono fun e W' ⟨he, bel⟩ => ?_
  subst he
  exact ⟨_, rfl, _, _, _, [], _, [], hW', trodAll_mk1 (shut_bool Try.underlying4 _), (trodAll_cons_mk (shut_int Try.underlying3 w0) (trodAll_cons_mk (shut_int Try.underlying3 w1) (trodAll_cons_mk (shut_int Try.underlying3 w2) (trodAll_cons_mk (shut_int Try.underlying3 w3) trodAll_mk0)))), rfl, bel.frame _, fun h => by cases h⟩

theorem over : Rows.wholeOrderRow.holds Try.pinned (OpenSpec.ofChange Rows.wholeOrderSpec) :=
  OpenClaim.holds_of_wide 9 Try.f9 rfl rfl rfl rfl rfl rfl rfl ⟨rfl, rfl, rfl, rfl, rfl⟩ rfl rfl rfl rfl rfl (by kernel_rfl) Try.func9 (by kernel_rfl)
    (of_decide_eq_true (by kernel_rfl)) (by unfold Func.isWrapper; first | (rw [if_pos (by decide +kernel)]; kernel_rfl) | (rw [if_neg (by decide +kernel)]; exact ⟨rfl, rfl⟩))
    (fun os started H enc _ => lifted os started H enc)

theorem proved : Rows.WholeOrderSaid := over
end Go.Proofs.Ytieefphfldkbhaa.wholeOrder
