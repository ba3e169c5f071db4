/-
  Proved: the statement WholeMoves (bounds and number greater by the same, as far as they don't go round, are written alike; not aligned in as many bits as the range needs), for every input; no further condition.
-/
import Derived.Test.YtieefphfldkbhaaRows
import Derived.Test.YtieefphfldkbhaaWLaw
import Derived.Test.YtieefphfldkbhaaOref
import Derived.ProofKit
import Derived.OpenShut
import Derived.ShutString
import Derived.ChangeOld
namespace Go.Proofs.Ytieefphfldkbhaa.wholeMoves
open Go.ChangeShapes Go.WideShapes Go.ChangeAt Go.RowKit
open Go.ChangeMaps (open_string shut_string)
set_option linter.unusedVariables false
set_option linter.unusedSimpArgs false

theorem own : ownKnob Try.prog.godebug = none := by kernel_rfl
theorem laidOut : laidOutB Try.prog = true := by kernel_rfl

theorem i64_and65535 (n : Int) : bits .and .i64 n 65535 = n % 65536 := by
  have h7 : (BitVec.ofInt 64 65535).toNat = 2 ^ 16 - 1 := by decide
  have key : (BitVec.ofInt 64 n &&& BitVec.ofInt 64 65535).toNat = (n % ((2 ^ 64 : Nat) : Int)).toNat % 2 ^ 16 := by
    rw [BitVec.toNat_and, BitVec.toNat_ofInt, h7, Nat.and_two_pow_sub_one_eq_mod]
  show IntKind.i64.wrap ((BitVec.ofInt 64 n &&& BitVec.ofInt 64 65535).toNat : Nat) = n % 65536
  rw [key, IntKind.wrap_i64]
  omega
set_option maxHeartbeats 1000000 in
theorem walk_out (w : World) (k : Int) (al : Bool) (n lo hi y : Int) (h : hi < lo ∨ n < lo ∨ hi < n ∨ 4611686018427387904 < hi) :
    Calls Try.prog 6 #[.int .i64 k, .bool al, .int .i64 n, .int .i64 lo, .int .i64 hi, .int .i64 y] w fun e w' => e = .returned (.bool true) ∧ Below w.heap.size w w' := by
  have hq : decide (hi < lo) = true ∨ (decide (hi < lo) = false ∧ decide (n < lo) = true) ∨ (decide (hi < lo) = false ∧ decide (n < lo) = false ∧ decide (hi < n) = true) ∨ (decide (hi < lo) = false ∧ decide (n < lo) = false ∧ decide (hi < n) = false ∧ decide (4611686018427387904 < hi) = true) := by
    by_cases h1 : hi < lo
    · exact .inl (decide_eq_true h1)
    by_cases h2 : n < lo
    · exact .inr (.inl ⟨decide_eq_false h1, decide_eq_true h2⟩)
    by_cases h3 : hi < n
    · exact .inr (.inr (.inl ⟨decide_eq_false h1, decide_eq_false h2, decide_eq_true h3⟩))
    · exact .inr (.inr (.inr ⟨decide_eq_false h1, decide_eq_false h2, decide_eq_false h3, decide_eq_true (by omega)⟩))
  clear h
  rcases hq with q1 | ⟨q1, q2⟩ | ⟨q1, q2, q3⟩ | ⟨q1, q2, q3, q4⟩
  all_goals
    go_enter Try.func6, Try.ntmps6
    go_wp2_with fail
    refine (wawake _).mono ?_
    rintro e wa ⟨rfl, hb⟩
    have HB := Lib.hid hb
    clear hb
    go_wp2_with fail
    go_ret
    exact ⟨rfl, HB.out⟩
set_option maxHeartbeats 4000000 in
theorem walk_within (w : World) (k : Int) (al : Bool) (n lo hi y : Int) (b0 : -9223372036854775808 ≤ n) (b2 : -9223372036854775808 ≤ lo) (h1 : lo ≤ n) (h2 : n ≤ hi) (h3 : hi ≤ 4611686018427387904) :
    Calls Try.prog 6 #[.int .i64 k, .bool al, .int .i64 n, .int .i64 lo, .int .i64 hi, .int .i64 y] w fun e w' => e = .returned (.bool true) ∧ Below w.heap.size w w' := by
  have q1 : decide (hi < lo) = false := decide_eq_false (by omega)
  have q2 : decide (n < lo) = false := decide_eq_false (by omega)
  have q3 : decide (hi < n) = false := decide_eq_false (by omega)
  have q4 : decide (4611686018427387904 < hi) = false := decide_eq_false (by omega)
  obtain ⟨c, hc⟩ : ∃ c : Nat, (c : Int) = y % 65536 := ⟨(y % 65536).toNat, by omega⟩
  have hand := i64_and65535 y
  rw [← hc] at hand
  have hc2 : c < 65536 := by omega
  clear hc
  obtain ⟨m, hm⟩ : ∃ m : Nat, (m : Int) = k % 8 := ⟨(k % 8).toNat, by omega⟩
  have hk := i64_and7 k
  rw [← hm] at hk
  have HM := Lib.hid hm
  clear hm
  have t1 : wrap64 (n + c) = n + c := by unfold wrap64; omega
  have t2 : wrap64 (lo + c) = lo + c := by unfold wrap64; omega
  have t3 : wrap64 (hi + c) = hi + c := by unfold wrap64; omega
  have HP := Lib.hid (fun w b B h hB => wput_any w b B al n lo hi h (by omega) (by omega) (by omega) hB)
  have HQ := Lib.hid (fun w b B h hB => wput_any w b B al (n + c) (lo + c) (hi + c) h (by omega) (by omega) (by omega) hB)
  have e1 : (n + c - (lo + c)).toNat = (n - lo).toNat := by omega
  have e2 : (hi + c - (lo + c)).toNat = (hi - lo).toNat := by omega
  rw [wErr_ok h1 h2] at HP
  rw [wErr_ok (show lo + c ≤ n + c by omega) (show n + c ≤ hi + c by omega)] at HQ
  have o1 := off_num hi lo b2 (by omega) (by omega)
  have HWd := Lib.hid (fun w => rwidth_ok (hi - lo).toNat w (by omega))
  have hle := fun B => putW_le al B (n - lo).toNat (hi - lo).toNat (by omega) (by omega)
  have h64 := wid_le64 (hi - lo).toNat (by omega)
  have HB1 : ∀ B, wBits al B n lo hi = putW al B (n - lo).toNat (hi - lo).toNat := fun B => wBits_ok h1 h2 al B
  have HB2 : ∀ B, wBits al B (n + c) (lo + c) (hi + c) = putW al B (n - lo).toNat (hi - lo).toNat := fun B => by rw [wBits_ok (by omega) (by omega), e1, e2]
  have hlen : al = true ∨ (al = false ∧ ∀ B, (putW al B (n - lo).toNat (hi - lo).toNat).length = B.length + wid (hi - lo).toNat) := by
    cases al with
    | true => exact .inl rfl
    | false => exact .inr ⟨rfl, fun B => by rw [putW_small (.inl rfl), List.length_append, nb_length]⟩
  have HH1 := Lib.hid HB1
  have HH2 := Lib.hid HB2
  clear HB1 HB2 e1 e2 b0 b2 h1 h2 h3
  generalize (hi - lo).toNat = R at *
  generalize (n - lo).toNat = v at *
  generalize wid R = g at *
  go_enter Try.func6, Try.ntmps6
  go_wp2_with fail
  refine (wawake _).mono ?_
  rintro e w1 ⟨rfl, hb⟩
  have HB := Lib.hid hb
  clear hb
  go_wp2_with fail
  refine (ahead_ok k w1).mono ?_
  rintro e w2 ⟨b, m1, hm1, hmk1, rfl, hbw, hw, hb⟩
  have hmm1 : m1 = m := by have := HM.out; omega
  subst hmm1
  have H1 := Lib.hid (HB.out.trans (hb.mono HB.out.size))
  have H2 := Lib.hid hw
  have hbw' : w.heap.size ≤ b := by have := HB.out.size; omega
  clear hb hw hbw HB hmk1
  go_wp2_with fail
  refine (ahead_ok k w2).mono ?_
  rintro e w3 ⟨x, m2, hm2, hmk2, rfl, hxw, hx, hb⟩
  have hmm2 : m2 = m1 := by have := HM.out; omega
  subst hmm2
  have H3 := Lib.hid (H1.out.trans (hb.mono H1.out.size))
  have H4 := Lib.hid (H2.out.below hb)
  have H5 := Lib.hid hx
  have hbx : b ≠ x := by have := H2.out.lt; omega
  have hxw' : w.heap.size ≤ x := by have := H1.out.size; omega
  have hlB : (List.replicate m2 true).length = m2 := List.length_replicate
  clear hb hx hxw H1 H2 hmk2
  generalize List.replicate m2 true = B at *
  have HP1 := Lib.hid (HP.out w3 b B H4.out (by omega))
  rw [HH1.out] at HP1
  have HQ1 := Lib.hid (fun w h => HQ.out w x B h (by omega))
  rw [HH2.out] at HQ1
  have hlW := hle B
  have hlen' : al = true ∨ (al = false ∧ (putW al B v R).length = m2 + g) := by
    rcases hlen with h | ⟨h1, h2⟩
    · exact .inl h
    · exact .inr ⟨h1, by rw [h2, hlB]⟩
  have hW : (putW al B v R).length ≤ 10000 := by omega
  clear hle hlen hlB hlW HP HQ HH1 HH2
  generalize putW al B v R = W at *
  go_wp2_with fail
  refine HP1.out.mono ?_
  rintro e w4 ⟨rfl, h1, h2⟩
  have H6 := Lib.hid h1
  have H7 := Lib.hid (H5.out.keep_wr H4.out h2 hbx.symm)
  have H8 := Lib.hid (H3.out.trans (h2.below hbw' H3.out.size))
  clear h1 h2 HP1 H3 H4 H5
  go_wp2_with fail
  refine (HQ1.out w4 H7.out).mono ?_
  rintro e w5 ⟨rfl, h1, h2⟩
  have H9 := Lib.hid (H6.out.keep_wr H7.out h2 hbx)
  have H10 := Lib.hid h1
  have H11 := Lib.hid (H8.out.trans (h2.below hxw' H8.out.size))
  clear h1 h2 HQ1 H6 H7 H8
  go_wp2_with fail
  refine (len_ok w5 b W H9.out).mono ?_
  rintro e w6 ⟨rfl, rfl⟩
  go_wp2_with fail
  refine (len_ok w5 x W H10.out).mono ?_
  rintro e w6 ⟨rfl, rfl⟩
  go_wp2_with fail
  refine (wbytes_any w5 b W H9.out (by omega)).mono ?_
  rintro e w6 ⟨rfl, hr, hb⟩
  have HS1 := Lib.hid (sl_of_row hr (wb_lt W) rfl)
  have H12 := Lib.hid (H11.out.trans (hb.mono H11.out.size))
  have H13 := Lib.hid (H9.out.below hb)
  have H14 := Lib.hid (H10.out.below hb)
  clear hr hb H9 H10 H11
  go_wp2_with fail
  refine (wbytes_any w6 x W H14.out (by omega)).mono ?_
  rintro e w7 ⟨rfl, hr, hb⟩
  have HS2 := Lib.hid (sl_of_row hr (wb_lt W) rfl)
  have HS3 := Lib.hid (HS1.out.below hb)
  have H15 := Lib.hid (H12.out.trans (hb.mono H12.out.size))
  have H16 := Lib.hid (H13.out.below hb)
  clear hr hb HS1 H12 H13 H14
  go_wp2_with fail
  refine (wsame_yes w7 _ _ _ HS3.out HS2.out).mono ?_
  rintro e w8 ⟨rfl, rfl⟩
  clear HS2 HS3
  rcases hlen' with rfl | ⟨rfl, hlen'⟩
  · go_wp2_with fail
    go_ret
    exact ⟨rfl, H15.out⟩
  · have t4 : ((W.length : Int) == (m2 : Int) + (g : Int)) = true := by rw [hlen']; simp
    have t5 : wrap64 ((m2 : Int) + (g : Int)) = (m2 : Int) + (g : Int) := by unfold wrap64; omega
    have HL := Lib.hid (len_ok w7 b W H16.out)
    clear hlen'
    go_wp2_with fail
    refine HL.out.mono ?_
    rintro e w8 ⟨rfl, rfl⟩
    go_wp2_with fail
    refine (HWd.out w7).mono ?_
    rintro e w8 ⟨rfl, rfl⟩
    go_wp2_with fail
    go_ret
    exact ⟨rfl, H15.out⟩
theorem walk (w : World) (k : Int) (w0 : (Lit.int .i64 k).wf = true) (al : Bool) (n : Int) (w1 : (Lit.int .i64 n).wf = true) (lo : Int) (w2 : (Lit.int .i64 lo).wf = true) (hi : Int) (w3 : (Lit.int .i64 hi).wf = true) (y : Int) (w4 : (Lit.int .i64 y).wf = true) :
    Calls Try.prog 6 #[.int .i64 k, .bool al, .int .i64 n, .int .i64 lo, .int .i64 hi, .int .i64 y] w fun e w' => e = .returned (.bool true) ∧ Below w.heap.size w w' := by
  have b1 := i64_bounds w1
  have b2 := i64_bounds w2
  have b3 := i64_bounds w3
  by_cases h : hi < lo ∨ n < lo ∨ hi < n ∨ 4611686018427387904 < hi
  · exact walk_out w k al n lo hi y h
  · exact walk_within w k al n lo hi y b1.1 b2.1 (by omega) (by omega) (by omega)

set_option maxRecDepth 100000 in
theorem lifted (os : Os) (started : os.Started) (H : Type) (enc : TypeId × Value → H) :
    ReturnsInHanded {} Try.checked os 6 .any (Rows.wholeMovesSpec.pre6 enc Try.prog Try.f6 Rows.wholeMovesRow.domain false) (Rows.wholeMovesSpec.post enc Try.prog Try.f6 false true false false) := by
  refine returnsInHanded_of_change (C := Try.checked) own started (by kernel_rfl) Try.func6
    (ChangeSpec.witness6 (enc := enc) (C := Try.checked) false ⟨#[], #[.int .i64 0, .bool false, .int .i64 0, .int .i64 0, .int .i64 0, .int .i64 0], []⟩ 8 (by kernel_rfl) (by kernel_rfl) (by kernel_rfl) (by kernel_rfl)) ?_
  intro W base args ds gs before hval0 hW hcnd _
  have hval : ∀ (j : Nat) t v, Try.f6.params[j]? = some t → args[j]? = some v → Value.okWide Try.prog W .any base t v := hval0
  have hW' := hW
  obtain ⟨p, q, hA0, hV, rfl, hfz, hnd⟩ := hW
  have hA : DataW.TrodAll enc Try.prog W 0 (fun _ => true) true Try.f6.params.toList args.toList ds p := hA0
  rw [Try.params6] at hA hval
  obtain ⟨v0, vs0, d0, ds0, p0, q0, hargs, rfl, rfl, h0, r0⟩ := trodAll_cons hA
  obtain ⟨v1, vs1, d1, ds1, p1, q1, rfl, rfl, rfl, h1, r1⟩ := trodAll_cons r0
  obtain ⟨v2, vs2, d2, ds2, p2, q2, rfl, rfl, rfl, h2, r2⟩ := trodAll_cons r1
  obtain ⟨v3, vs3, d3, ds3, p3, q3, rfl, rfl, rfl, h3, r3⟩ := trodAll_cons r2
  obtain ⟨v4, vs4, d4, ds4, p4, q4, rfl, rfl, rfl, h4, r4⟩ := trodAll_cons r3
  obtain ⟨v5, vs5, d5, ds5, p5, q5, rfl, rfl, rfl, h5, r5⟩ := trodAll_cons r4
  obtain ⟨rfl, rfl, rfl⟩ := trodAll_nil r5
  obtain rfl : args = #[v0, v1, v2, v3, v4, v5] := by cases args; simp_all
  obtain ⟨rfl, rfl⟩ := trodVars_none hV
  obtain ⟨a0, rfl, rfl, rfl, w0⟩ := open_int Try.underlying3 (hval 0 3 v0 rfl rfl) h0
  obtain ⟨a1, rfl, rfl, rfl⟩ := open_bool Try.underlying4 (hval 1 4 v1 rfl rfl) h1
  obtain ⟨a2, rfl, rfl, rfl, w2⟩ := open_int Try.underlying3 (hval 2 3 v2 rfl rfl) h2
  obtain ⟨a3, rfl, rfl, rfl, w3⟩ := open_int Try.underlying3 (hval 3 3 v3 rfl rfl) h3
  obtain ⟨a4, rfl, rfl, rfl, w4⟩ := open_int Try.underlying3 (hval 4 3 v4 rfl rfl) h4
  obtain ⟨a5, rfl, rfl, rfl, w5⟩ := open_int Try.underlying3 (hval 5 3 v5 rfl rfl) h5
  clear hA0 hval0
  refine (walk W a0 w0 a1 a2 w2 a3 w3 a4 w4 a5 w5).mono fun e W' ⟨he, bel⟩ => ?_
  subst he
  exact ⟨_, rfl, _, _, _, [], _, [], hW', trodAll_mk1 (shut_bool Try.underlying4 _), (trodAll_cons_mk (shut_int Try.underlying3 w0) (trodAll_cons_mk (shut_bool Try.underlying4 a1) (trodAll_cons_mk (shut_int Try.underlying3 w2) (trodAll_cons_mk (shut_int Try.underlying3 w3) (trodAll_cons_mk (shut_int Try.underlying3 w4) (trodAll_cons_mk (shut_int Try.underlying3 w5) trodAll_mk0)))))), rfl, bel.frame _, fun h => by cases h⟩

theorem over : Rows.wholeMovesRow.holds Try.pinned (OpenSpec.ofChange Rows.wholeMovesSpec) :=
  OpenClaim.holds_of_wide 6 Try.f6 rfl rfl rfl rfl rfl rfl rfl ⟨rfl, rfl, rfl, rfl, rfl⟩ rfl rfl rfl rfl rfl (by kernel_rfl) Try.func6 (by kernel_rfl)
    (of_decide_eq_true (by kernel_rfl)) (by unfold Func.isWrapper; first | (rw [if_pos (by decide +kernel)]; kernel_rfl) | (rw [if_neg (by decide +kernel)]; exact ⟨rfl, rfl⟩))
    (fun os started H enc _ => lifted os started H enc)

theorem proved : Rows.WholeMovesSaid := over
end Go.Proofs.Ytieefphfldkbhaa.wholeMoves
