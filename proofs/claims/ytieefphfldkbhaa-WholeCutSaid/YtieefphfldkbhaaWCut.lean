/-
  Proved: the statement WholeCut (of what was put, cut off ahead of its last octet, nothing is got, but for a number that takes no bits), for every input; no further condition.
-/
import Derived.Test.YtieefphfldkbhaaRows
import Derived.Test.YtieefphfldkbhaaWLaw
import Derived.ProofKit
import Derived.OpenShut
import Derived.ShutString
import Derived.ChangeOld
namespace Go.Proofs.Ytieefphfldkbhaa.wholeCut
open Go.ChangeShapes Go.WideShapes Go.ChangeAt Go.RowKit
open Go.ChangeMaps (open_string shut_string)
set_option linter.unusedVariables false
set_option linter.unusedSimpArgs false

theorem own : ownKnob Try.prog.godebug = none := by kernel_rfl
theorem laidOut : laidOutB Try.prog = true := by kernel_rfl

theorem i64_and65535 (n : Int) : bits .and .i64 n 65535 = n % 65536 := by
  have h7 : (BitVec.ofInt 64 65535).toNat = 2 ^ 16 - 1 := by decide
  have key : (BitVec.ofInt 64 n &&& BitVec.ofInt 64 65535).toNat = (n % ((2 ^ 64 : Nat) : Int)).toNat % 2 ^ 16 := by
    rw [BitVec.toNat_and, BitVec.toNat_ofInt, h7, Nat.and_two_pow_sub_one_eq_mod]
  show IntKind.i64.wrap ((BitVec.ofInt 64 n &&& BitVec.ofInt 64 65535).toNat : Nat) = n % 65536
  rw [key, IntKind.wrap_i64]
  omega
theorem take_sl {w : World} {g k cap : Nat} {l : List Nat} (h : DataAt w g 0 l) (hk : k ≤ l.length) : SlAt w (.slice (some ⟨g, 0, none⟩) k cap) (l.take k) := by
  have hl : (l.take k).length = k := by rw [List.length_take]; omega
  have he : ∀ i, i < k → (l.take k).getD i 0 = l.getD i 0 := fun i hi => by
    rw [List.getD_eq_getElem?_getD, List.getD_eq_getElem?_getD, List.getElem?_take, if_pos hi]
  refine .inl ⟨g, 0, cap, by rw [hl], ⟨fun i hi => ?_, fun i => ?_⟩⟩
  · rw [hl] at hi
    rw [he i hi]
    exact h.cell i (by omega)
  · rcases Nat.lt_or_ge i k with hi | hi
    · rw [he i hi]; exact h.byte i
    · rw [List.getD_eq_getElem?_getD, List.getElem?_eq_none (by omega)]; simp
set_option maxHeartbeats 2000000 in
theorem walk_bad (w : World) (al : Bool) (n lo hi cut : Int) (b0 : -9223372036854775808 ≤ n ∧ n ≤ 9223372036854775807) (b2 : -9223372036854775808 ≤ lo ∧ lo ≤ 9223372036854775807) (b3 : -9223372036854775808 ≤ hi ∧ hi ≤ 9223372036854775807) (hbad : wErr n lo hi ≠ 0 ∨ wErr n lo hi = 0 ∧ wBits al [] n lo hi = []) :
    Calls Try.prog 8 #[.bool al, .int .i64 n, .int .i64 lo, .int .i64 hi, .int .i64 cut] w fun e w' => e = .returned (.bool true) ∧ Below w.heap.size w w' := by
  have HP := Lib.hid (fun w b h => wput_any w b [] al n lo hi h b0 b2 b3 (by decide))
  generalize wErr n lo hi = er at *
  generalize wBits al [] n lo hi = W at *
  have hq : ((er != 0) = true ∧ (er == 0) = false) ∨ (er = 0 ∧ W = []) := by
    rcases hbad with h | h
    · exact .inl (ne_facts h)
    · exact .inr h
  clear b0 b2 b3 hbad
  rcases hq with ⟨q1, q2⟩ | ⟨rfl, rfl⟩
  all_goals
    go_enter Try.func8, Try.ntmps8
    go_wp2_with fail
    refine (wawake _).mono ?_
    rintro e wa ⟨rfl, hb⟩
    have HB := Lib.hid hb
    clear hb
    go_wp2_with (refine wpList_box_writer rfl rfl rfl 18 rfl rfl (by kernel_rfl) ?_; intro w1 hw1 hb1 hs1; have HW1 := Lib.hid hw1; have HB1 := Lib.hid hb1; clear hw1 hb1)
    refine (HP.out w1 _ HW1.out).mono ?_
    rintro e w3 ⟨rfl, h1, h2⟩
    have hs := HB.out.size
    have H3 := Lib.hid ((HB.out.trans (HB1.out.mono hs)).trans (h2.below hs (by omega)))
    have HW3 := Lib.hid h1
    clear h1 h2
    go_wp2_with (go_at_call 14; refine (len_ok w3 _ _ HW3.out).mono ?_; rintro e w4 ⟨rfl, rfl⟩)
    go_ret
    exact ⟨rfl, H3.out⟩
set_option maxHeartbeats 2000000 in
theorem walk_good (w : World) (al : Bool) (n lo hi cut : Int) (b0 : -9223372036854775808 ≤ n ∧ n ≤ 9223372036854775807) (b2 : -9223372036854775808 ≤ lo ∧ lo ≤ 9223372036854775807) (b3 : -9223372036854775808 ≤ hi ∧ hi ≤ 9223372036854775807) (h1 : lo ≤ n) (h2 : n ≤ hi) (hne : wBits al [] n lo hi ≠ []) :
    Calls Try.prog 8 #[.bool al, .int .i64 n, .int .i64 lo, .int .i64 hi, .int .i64 cut] w fun e w' => e = .returned (.bool true) ∧ Below w.heap.size w w' := by
  have HP := Lib.hid (fun w b h => wput_any w b [] al n lo hi h b0 b2 b3 (by decide))
  rw [wErr_ok h1 h2] at HP
  have hle := wBits_le al [] n lo hi b0 b2 b3
  have hcut := fun k hk => cut_short al (n - lo).toNat (hi - lo).toNat k (by omega) (by omega) hk (by rwa [← wBits_ok h1 h2])
  rw [← wBits_ok h1 h2] at hcut
  obtain ⟨c, hc⟩ : ∃ c : Nat, (c : Int) = cut % 65536 := ⟨(cut % 65536).toNat, by omega⟩
  have hand := i64_and65535 cut
  rw [← hc] at hand
  generalize hW : wBits al [] n lo hi = W at *
  have hW0 : 0 < W.length := List.length_pos_iff.2 hne
  have hwl : (wb W).length = (W.length + 7) / 8 := by unfold wb; rw [if_neg hne, octs_length]
  have hl1 : 1 ≤ (wb W).length ∧ (wb W).length ≤ 100 := by simp at hle; omega
  have hlt := wb_lt W
  have hWl : W.length ≤ 1000 := by simp at hle; omega
  clear hle hne hW hwl hc
  obtain ⟨k, hk⟩ : ∃ k, c % (wb W).length = k := ⟨_, rfl⟩
  have hkl : k < (wb W).length := by rw [← hk]; exact Nat.mod_lt _ (by omega)
  have hgk := hcut k hkl
  have q0 : ((W.length : Int) == 0) = false := beq_eq_false_iff_ne.2 (by omega)
  have hge : ∃ N q, gE al ((wb W).take k) 0 lo hi = 2 ∧ gN al ((wb W).take k) 0 lo hi = N ∧ gP al ((wb W).take k) 0 lo hi = q := by
    generalize hrd : rdOff al ((wb W).take k) 0 (hi - lo).toNat = o at hgk
    obtain ⟨e, v, q⟩ := o
    simp only at hgk
    subst hgk
    obtain ⟨g1, g2, g3⟩ := gE_bad (lo := lo) (hi := hi) (by omega) hrd (by decide)
    exact ⟨_, _, g1, rfl, rfl⟩
  obtain ⟨N, q, g1, g2, g3⟩ := hge
  clear hcut hgk
  go_enter Try.func8, Try.ntmps8
  go_wp2_with fail
  refine (wawake _).mono ?_
  rintro e wa ⟨rfl, hb⟩
  have HB := Lib.hid hb
  clear hb
  go_wp2_with (refine wpList_box_writer rfl rfl rfl 18 rfl rfl (by kernel_rfl) ?_; intro w1 hw1 hb1 hs1; have HW1 := Lib.hid hw1; have HB1 := Lib.hid hb1; clear hw1 hb1)
  refine (HP.out w1 _ HW1.out).mono ?_
  rintro e w3 ⟨rfl, h3, h4⟩
  have hs := HB.out.size
  have H3 := Lib.hid ((HB.out.trans (HB1.out.mono hs)).trans (h4.below hs (by omega)))
  have HW3 := Lib.hid h3
  clear h3 h4 HP HW1 HB1 HB
  generalize wa.heap.size = b at *
  go_wp2_with fail
  refine (len_ok w3 b W HW3.out).mono ?_
  rintro e w4 ⟨rfl, rfl⟩
  go_wp2_with fail
  refine (wbytes_any w3 b W HW3.out (by omega)).mono ?_
  rintro e w4 ⟨rfl, hr, hb⟩
  have HD := Lib.hid (data_of_row w4 _ _ hr hlt)
  have H4 := Lib.hid (H3.out.trans (hb.mono H3.out.size))
  clear hr hb H3 HW3
  generalize wb W = L at *
  obtain ⟨len, hlen⟩ : ∃ len, L.length = len := ⟨_, rfl⟩
  rw [hlen] at hk hkl hl1 ⊢
  have HLen := Lib.hid hlen
  clear hlen
  go_wp2_with fail
  have hS := take_sl (cap := len) HD.out (show k ≤ L.length by have := HLen.out; omega)
  have hlt' : (L.take k).length ≤ 1000 := by rw [List.length_take]; omega
  generalize L.take k = M at *
  refine (new_ok w4 _ M hS (by omega)).mono ?_
  rintro e w5 ⟨s, r, rfl, hr1, hrd1, hb1⟩
  have H5 := Lib.hid (H4.out.trans (hb1.mono H4.out.size))
  have HR := Lib.hid hrd1
  have hrw : w.heap.size ≤ r := by have := H4.out.size; omega
  clear hr1 hrd1 hb1 hS H4 HD HLen
  go_wp2_with fail
  have HG := wget_any w5 r M 0 al lo hi HR.out (by omega) b2 b3
  rw [g1, g2, g3] at HG
  refine HG.mono ?_
  rintro e w6 ⟨rfl, h3, h4⟩
  have H6 := Lib.hid (H5.out.trans (h4.below hrw H5.out.size))
  clear h3 h4 HG HR H5
  go_wp2_with fail
  go_ret
  exact ⟨rfl, H6.out⟩
theorem walk (w : World) (al : Bool) (n : Int) (w1 : (Lit.int .i64 n).wf = true) (lo : Int) (w2 : (Lit.int .i64 lo).wf = true) (hi : Int) (w3 : (Lit.int .i64 hi).wf = true) (cut : Int) (w4 : (Lit.int .i64 cut).wf = true) :
    Calls Try.prog 8 #[.bool al, .int .i64 n, .int .i64 lo, .int .i64 hi, .int .i64 cut] w fun e w' => e = .returned (.bool true) ∧ Below w.heap.size w w' := by
  have b0 := i64_bounds w1
  have b2 := i64_bounds w2
  have b3 := i64_bounds w3
  by_cases h1 : lo ≤ n ∧ n ≤ hi
  · by_cases h2 : wBits al [] n lo hi = []
    · exact walk_bad w al n lo hi cut b0 b2 b3 (.inr ⟨wErr_ok h1.1 h1.2, h2⟩)
    · exact walk_good w al n lo hi cut b0 b2 b3 h1.1 h1.2 h2
  · refine walk_bad w al n lo hi cut b0 b2 b3 (.inl ?_)
    by_cases h2 : hi < lo
    · rw [wErr_arg h2]; decide
    · rw [wErr_con (by omega) (by omega)]; decide

set_option maxRecDepth 100000 in
theorem lifted (os : Os) (started : os.Started) (H : Type) (enc : TypeId × Value → H) :
    ReturnsInHanded {} Try.checked os 8 .any (Rows.wholeCutSpec.pre6 enc Try.prog Try.f8 Rows.wholeCutRow.domain false) (Rows.wholeCutSpec.post enc Try.prog Try.f8 false true false false) := by
  refine returnsInHanded_of_change (C := Try.checked) own started (by kernel_rfl) Try.func8
    (ChangeSpec.witness6 (enc := enc) (C := Try.checked) false ⟨#[], #[.bool false, .int .i64 0, .int .i64 0, .int .i64 0, .int .i64 0], []⟩ 8 (by kernel_rfl) (by kernel_rfl) (by kernel_rfl) (by kernel_rfl)) ?_
  intro W base args ds gs before hval0 hW hcnd _
  have hval : ∀ (j : Nat) t v, Try.f8.params[j]? = some t → args[j]? = some v → Value.okWide Try.prog W .any base t v := hval0
  have hW' := hW
  obtain ⟨p, q, hA0, hV, rfl, hfz, hnd⟩ := hW
  have hA : DataW.TrodAll enc Try.prog W 0 (fun _ => true) true Try.f8.params.toList args.toList ds p := hA0
  rw [Try.params8] at hA hval
  obtain ⟨v0, vs0, d0, ds0, p0, q0, hargs, rfl, rfl, h0, r0⟩ := trodAll_cons hA
  obtain ⟨v1, vs1, d1, ds1, p1, q1, rfl, rfl, rfl, h1, r1⟩ := trodAll_cons r0
  obtain ⟨v2, vs2, d2, ds2, p2, q2, rfl, rfl, rfl, h2, r2⟩ := trodAll_cons r1
  obtain ⟨v3, vs3, d3, ds3, p3, q3, rfl, rfl, rfl, h3, r3⟩ := trodAll_cons r2
  obtain ⟨v4, vs4, d4, ds4, p4, q4, rfl, rfl, rfl, h4, r4⟩ := trodAll_cons r3
  obtain ⟨rfl, rfl, rfl⟩ := trodAll_nil r4
  obtain rfl : args = #[v0, v1, v2, v3, v4] := by cases args; simp_all
  obtain ⟨rfl, rfl⟩ := trodVars_none hV
  obtain ⟨a0, rfl, rfl, rfl⟩ := open_bool Try.underlying4 (hval 0 4 v0 rfl rfl) h0
  obtain ⟨a1, rfl, rfl, rfl, w1⟩ := open_int Try.underlying3 (hval 1 3 v1 rfl rfl) h1
  obtain ⟨a2, rfl, rfl, rfl, w2⟩ := open_int Try.underlying3 (hval 2 3 v2 rfl rfl) h2
  obtain ⟨a3, rfl, rfl, rfl, w3⟩ := open_int Try.underlying3 (hval 3 3 v3 rfl rfl) h3
  obtain ⟨a4, rfl, rfl, rfl, w4⟩ := open_int Try.underlying3 (hval 4 3 v4 rfl rfl) h4
  clear hA0 hval0
  refine (walk W a0 a1 w1 a2 w2 a3 w3 a4 w4).mono fun e W' ⟨he, bel⟩ => ?_
  subst he
  exact ⟨_, rfl, _, _, _, [], _, [], hW', trodAll_mk1 (shut_bool Try.underlying4 _), (trodAll_cons_mk (shut_bool Try.underlying4 a0) (trodAll_cons_mk (shut_int Try.underlying3 w1) (trodAll_cons_mk (shut_int Try.underlying3 w2) (trodAll_cons_mk (shut_int Try.underlying3 w3) (trodAll_cons_mk (shut_int Try.underlying3 w4) trodAll_mk0))))), rfl, bel.frame _, fun h => by cases h⟩

theorem over : Rows.wholeCutRow.holds Try.pinned (OpenSpec.ofChange Rows.wholeCutSpec) :=
  OpenClaim.holds_of_wide 8 Try.f8 rfl rfl rfl rfl rfl rfl rfl ⟨rfl, rfl, rfl, rfl, rfl⟩ rfl rfl rfl rfl rfl (by kernel_rfl) Try.func8 (by kernel_rfl)
    (of_decide_eq_true (by kernel_rfl)) (by unfold Func.isWrapper; first | (rw [if_pos (by decide +kernel)]; kernel_rfl) | (rw [if_neg (by decide +kernel)]; exact ⟨rfl, rfl⟩))
    (fun os started H enc _ => lifted os started H enc)

theorem proved : Rows.WholeCutSaid := over
end Go.Proofs.Ytieefphfldkbhaa.wholeCut
