/-
  Proved: the statement LengthOrder (without close bounds a greater length below 16384 takes no fewer bits; below 128 it takes eight, then sixteen), for every input; no further condition.
-/
import Derived.Test.YtebmmfhkgglkgaaRows
import Derived.Test.YtebmmfhkgglkgaaLLaw
import Derived.ProofKit
import Derived.OpenShut
import Derived.ShutString
import Derived.ChangeOld
namespace Go.Proofs.Ytebmmfhkgglkgaa.lengthOrder
open Go.ChangeShapes Go.WideShapes Go.ChangeAt Go.RowKit
open Go.ChangeMaps (open_string shut_string)
set_option linter.unusedVariables false
set_option linter.unusedSimpArgs false
set_option maxRecDepth 100000

theorem own : ownKnob Try.prog.godebug = none := by kernel_rfl
theorem laidOut : laidOutB Try.prog = true := by kernel_rfl

theorem i64_and16383 (n : Int) : bits .and .i64 n 16383 = n % 16384 := by
  have h7 : (BitVec.ofInt 64 16383).toNat = 2 ^ 14 - 1 := by decide
  have key : (BitVec.ofInt 64 n &&& BitVec.ofInt 64 16383).toNat = (n % ((2 ^ 64 : Nat) : Int)).toNat % 2 ^ 14 := by
    rw [BitVec.toNat_and, BitVec.toNat_ofInt, h7, Nat.and_two_pow_sub_one_eq_mod]
  show IntKind.i64.wrap ((BitVec.ofInt 64 n &&& BitVec.ofInt 64 16383).toNat : Nat) = n % 16384
  rw [key, IntKind.wrap_i64]
  omega
def obits (c : Nat) : List Bool := putF false [] c
theorem obits_len (c : Nat) (h : c < 16384) : (c < 128 ∧ (obits c).length = 8) ∨ (128 ≤ c ∧ (obits c).length = 16) := by
  unfold obits putF
  rw [lead_false, List.nil_append]
  rcases Nat.lt_or_ge c 128 with h1 | h1
  · exact .inl ⟨h1, by rw [formB_one h1, nb_length]⟩
  · exact .inr ⟨h1, by rw [formB_two h1 h, nb_length]⟩
theorem oput (w : World) (b : Nat) (c : Nat) (h : WrAt w b []) (hc : c < 16384) :
    Calls Try.prog 12 #[.pointer (some ⟨b, 0, none⟩), .bool false, .int .i64 c, .int .i64 0, .int .i64 (-1)] w fun e' w' =>
      e' = .returned (.tuple #[.int .i64 c, .bool false, .int .i64 0]) ∧ WrAt w' b (obits c) ∧ Only b w w' := by
  have h1 := lput_any w b [] false c 0 (-1) h (by omega) (by omega) (by omega) (by decide)
  have he := lErr_ok (n := c) (lo := 0) (hi := -1) (by omega) (by omega)
  obtain ⟨p1, p2, p3⟩ := lPut_form he (by omega) false []
  rw [p1, p2, p3, he, Int.toNat_natCast, lfst_small hc, decide_eq_false (by omega)] at h1
  exact h1
set_option maxHeartbeats 8000000 in
theorem walk_main (w : World) (n m : Int) (a c : Nat) (ha : bits .and .i64 n 16383 = (a : Int)) (hc : bits .and .i64 m 16383 = (c : Int)) (ha2 : a < 16384) (hc2 : c < 16384) :
    Calls Try.prog 9 #[.int .i64 n, .int .i64 m] w fun e w' => e = .returned (.bool true) ∧ Below w.heap.size w w' := by
  have HP := Lib.hid (fun w b h => oput w b a h ha2)
  have HQ := Lib.hid (fun w b h => oput w b c h hc2)
  obtain ⟨la, hla⟩ : ∃ la, (obits a).length = la := ⟨_, rfl⟩
  obtain ⟨lc, hlc⟩ : ∃ lc, (obits c).length = lc := ⟨_, rfl⟩
  have h1 := obits_len a ha2
  have h2 := obits_len c hc2
  rw [hla] at h1
  rw [hlc] at h2
  have HLA := Lib.hid hla
  have HLC := Lib.hid hlc
  have hq : (decide ((128 : Int) ≤ (a : Int)) = false ∧ la = 8 ∨ decide ((128 : Int) ≤ (a : Int)) = true ∧ la = 16) := by
    rcases h1 with ⟨h, h'⟩ | ⟨h, h'⟩
    · exact .inl ⟨decide_eq_false (by omega), h'⟩
    · exact .inr ⟨decide_eq_true (by omega), h'⟩
  have hr : decide ((c : Int) < (a : Int)) = true ∨ decide ((c : Int) < (a : Int)) = false ∧ decide ((la : Int) ≤ (lc : Int)) = true := by
    rcases Nat.lt_or_ge c a with h | h
    · exact .inl (decide_eq_true (by omega))
    · exact .inr ⟨decide_eq_false (by omega), decide_eq_true (by omega)⟩
  have hr2 : decide (c < a) = true ∨ decide (c < a) = false ∧ decide (la ≤ lc) = true := by
    rcases Nat.lt_or_ge c a with h | h
    · exact .inl (decide_eq_true (by omega))
    · exact .inr ⟨decide_eq_false (by omega), decide_eq_true (by omega)⟩
  clear h1 h2 hla hlc ha2 hc2 hr
  have HL1 : Go.RowKit.Hid (∀ w b, WrAt w b (obits a) → Calls Try.prog 19 #[.pointer (some ⟨b, 0, none⟩)] w fun e w' => e = .returned (.int .i64 la) ∧ w = w') := fun w b h => by
    have := len_ok w b _ h
    rw [HLA.out] at this
    exact this
  have HL2 : Go.RowKit.Hid (∀ w b, WrAt w b (obits c) → Calls Try.prog 19 #[.pointer (some ⟨b, 0, none⟩)] w fun e w' => e = .returned (.int .i64 lc) ∧ w = w') := fun w b h => by
    have := len_ok w b _ h
    rw [HLC.out] at this
    exact this
  clear HLA HLC
  generalize obits a = W at *
  generalize obits c = X at *
  rcases hq with ⟨q1, rfl⟩ | ⟨q1, rfl⟩ <;> rcases hr2 with q2 | ⟨q2, q3⟩
  all_goals
    try have q4 : decide ((8 : Int) ≤ (lc : Int)) = true := decide_eq_true (by have := of_decide_eq_true q3; omega)
    try have q5 : decide ((16 : Int) ≤ (lc : Int)) = true := decide_eq_true (by have := of_decide_eq_true q3; omega)
    go_enter Try.func9, Try.ntmps9
    go_wp2_with fail
    refine (lawake _).mono ?_
    rintro e wa ⟨rfl, hb⟩
    have HB := Lib.hid hb
    clear hb
    go_wp2_with (refine wpList_box_writer rfl rfl rfl 22 rfl rfl (by kernel_rfl) ?_; intro w1 hw1 hb1 hs1; have HW1 := Lib.hid hw1; have HB1 := Lib.hid hb1; clear hw1 hb1)
    obtain ⟨w2, hwe, hw2, hb2', hs2⟩ := second w1
    rw [← hwe]
    have HX2 := Lib.hid hw2
    have HB2 := Lib.hid hb2'
    clear hw2 hb2' hwe
    have HW2 := Lib.hid (HW1.out.below HB2.out)
    have hlt := HW1.out.lt
    refine (HP.out w2 _ HW2.out).mono ?_
    rintro e w3 ⟨rfl, h1, h2⟩
    have hs := HB.out.size
    have H3 := Lib.hid (((HB.out.trans (HB1.out.mono hs)).trans (HB2.out.mono (by omega))).trans (h2.below hs (by omega)))
    have HX3 := Lib.hid (HX2.out.keep_wr HW2.out h2 (by omega))
    have HW3 := Lib.hid h1
    have hs3 := h2.size
    have hab : wa.heap.size ≠ w1.heap.size := by omega
    have hbx : w.heap.size ≤ w1.heap.size := by omega
    clear h1 h2 HW1 HW2 HX2 HB1 HB2 HB
    generalize wa.heap.size = b at *
    generalize w1.heap.size = x at *
    go_wp2_with fail
    refine (HQ.out w3 x HX3.out).mono ?_
    rintro e w4 ⟨rfl, h1, h2⟩
    have H4 := Lib.hid (H3.out.trans (h2.below (by omega) (by have := H3.out.size; omega)))
    have HW4 := Lib.hid (HW3.out.keep_wr HX3.out h2 hab)
    have HX4 := Lib.hid h1
    clear h1 h2 H3 HW3 HX3
    go_wp2_with (first | (go_at_call 19; refine (HL1.out w4 b HW4.out).mono ?_; rintro e w5 ⟨rfl, rfl⟩) | (go_at_call 19; refine (HL2.out w4 x HX4.out).mono ?_; rintro e w5 ⟨rfl, rfl⟩))
    go_ret
    exact ⟨rfl, H4.out⟩
theorem walk (w : World) (n : Int) (w0 : (Lit.int .i64 n).wf = true) (m : Int) (w1 : (Lit.int .i64 m).wf = true) :
    Calls Try.prog 9 #[.int .i64 n, .int .i64 m] w fun e w' => e = .returned (.bool true) ∧ Below w.heap.size w w' :=
  walk_main w n m (n % 16384).toNat (m % 16384).toNat (by rw [i64_and16383]; omega) (by rw [i64_and16383]; omega) (by omega) (by omega)

set_option maxRecDepth 100000 in
theorem lifted (os : Os) (started : os.Started) (H : Type) (enc : TypeId × Value → H) :
    ReturnsInHanded {} Try.checked os 9 .any (Rows.lengthOrderSpec.pre6 enc Try.prog Try.f9 Rows.lengthOrderRow.domain false) (Rows.lengthOrderSpec.post enc Try.prog Try.f9 false true false false) := by
  refine returnsInHanded_of_change (C := Try.checked) own started (by kernel_rfl) Try.func9
    (ChangeSpec.witness6 (enc := enc) (C := Try.checked) false ⟨#[], #[.int .i64 0, .int .i64 0], []⟩ 8 (by kernel_rfl) (by kernel_rfl) (by kernel_rfl) (by kernel_rfl)) ?_
  intro W base args ds gs before hval0 hW hcnd _
  have hval : ∀ (j : Nat) t v, Try.f9.params[j]? = some t → args[j]? = some v → Value.okWide Try.prog W .any base t v := hval0
  have hW' := hW
  obtain ⟨p, q, hA0, hV, rfl, hfz, hnd⟩ := hW
  have hA : DataW.TrodAll enc Try.prog W 0 (fun _ => true) true Try.f9.params.toList args.toList ds p := hA0
  rw [Try.params9] at hA hval
  obtain ⟨v0, vs0, d0, ds0, p0, q0, hargs, rfl, rfl, h0, r0⟩ := trodAll_cons hA
  obtain ⟨v1, vs1, d1, ds1, p1, q1, rfl, rfl, rfl, h1, r1⟩ := trodAll_cons r0
  obtain ⟨rfl, rfl, rfl⟩ := trodAll_nil r1
  obtain rfl : args = #[v0, v1] := by cases args; simp_all
  obtain ⟨rfl, rfl⟩ := trodVars_none hV
  obtain ⟨a0, rfl, rfl, rfl, w0⟩ := open_int Try.underlying3 (hval 0 3 v0 rfl rfl) h0
  obtain ⟨a1, rfl, rfl, rfl, w1⟩ := open_int Try.underlying3 (hval 1 3 v1 rfl rfl) h1
  clear hA0 hval0
  refine (walk W a0 w0 a1 w1).mono fun e W' ⟨he, bel⟩ => ?_
  subst he
  exact ⟨_, rfl, _, _, _, [], _, [], hW', trodAll_mk1 (shut_bool Try.underlying4 _), (trodAll_cons_mk (shut_int Try.underlying3 w0) (trodAll_cons_mk (shut_int Try.underlying3 w1) trodAll_mk0)), rfl, bel.frame _, fun h => by cases h⟩

theorem over : Rows.lengthOrderRow.holds Try.pinned (OpenSpec.ofChange Rows.lengthOrderSpec) :=
  OpenClaim.holds_of_wide 9 Try.f9 rfl rfl rfl rfl rfl rfl rfl ⟨rfl, rfl, rfl, rfl, rfl⟩ rfl rfl rfl rfl rfl (by kernel_rfl) Try.func9 (by kernel_rfl)
    (of_decide_eq_true (by kernel_rfl)) (by unfold Func.isWrapper; first | (rw [if_pos (by decide +kernel)]; kernel_rfl) | (rw [if_neg (by decide +kernel)]; exact ⟨rfl, rfl⟩))
    (fun os started H enc _ => lifted os started H enc)

theorem proved : Rows.LengthOrderSaid := over
end Go.Proofs.Ytebmmfhkgglkgaa.lengthOrder
