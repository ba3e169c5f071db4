/-
  Proved: the statement LengthPieces (a length without bounds, put piece by piece, ends, in pieces of 64 K but the last two, and all together are it), for every input; no further condition.
-/
import Derived.Test.YtebmmfhkgglkgaaRows
import Derived.Test.YtebmmfhkgglkgaaLLaw
import Derived.ProofKit
import Derived.OpenShut
import Derived.ShutString
import Derived.ChangeOld
namespace Go.Proofs.Ytebmmfhkgglkgaa.lengthPieces
open Go.ChangeShapes Go.WideShapes Go.ChangeAt Go.RowKit
open Go.ChangeMaps (open_string shut_string)
set_option linter.unusedVariables false
set_option linter.unusedSimpArgs false
set_option maxRecDepth 100000

theorem own : ownKnob Try.prog.godebug = none := by kernel_rfl
theorem laidOut : laidOutB Try.prog = true := by kernel_rfl

theorem i64_and20 (n : Int) : bits .and .i64 n 1048575 = n % 1048576 := by
  have h7 : (BitVec.ofInt 64 1048575).toNat = 2 ^ 20 - 1 := by decide
  have key : (BitVec.ofInt 64 n &&& BitVec.ofInt 64 1048575).toNat = (n % ((2 ^ 64 : Nat) : Int)).toNat % 2 ^ 20 := by
    rw [BitVec.toNat_and, BitVec.toNat_ofInt, h7, Nat.and_two_pow_sub_one_eq_mod]
  show IntKind.i64.wrap ((BitVec.ofInt 64 n &&& BitVec.ofInt 64 1048575).toNat : Nat) = n % 1048576
  rw [key, IntKind.wrap_i64]
  omega
theorem lPut_nat (c : Nat) (al : Bool) (B : List Bool) : lErr c 0 (-1) = 0 ∧ lCnt c 0 (-1) = lfst c ∧ lMore c 0 (-1) = decide (16384 ≤ c) ∧ lBits al B c 0 (-1) = putF al B (lfst c) := by
  have he := lErr_ok (n := c) (lo := 0) (hi := -1) (by omega) (by omega)
  obtain ⟨p1, p2, p3⟩ := lPut_form he (by omega) al B
  rw [p1, p2, p3, Int.toNat_natCast]
  exact ⟨he, rfl, by rw [decide_eq_decide]; omega, rfl⟩
theorem putF_even (B : List Bool) (c : Nat) (h : B.length % 8 = 0) : (putF true B c).length % 8 = 0 ∧ (putF true B c).length ≤ B.length + 16 := by
  unfold putF
  rw [lead_true, List.length_append, padded_length]
  have := formB_len c
  omega
def RelP (w : World) (N b : Nat) (lv sv iv : Value) (wr : World) : Prop := ∃ (i left S : Nat) (B : List Bool), iv = .int .i64 i ∧ lv = .int .i64 left ∧ sv = .int .i64 S ∧ S + left = N ∧ (left + 65536 * i < 1048576 ∨ i ≤ 16 ∧ left < 16384) ∧ WrAt wr b B ∧ B.length % 8 = 0 ∧ B.length ≤ 16 * i ∧ Below w.heap.size w wr
theorem relP_next {w w2 : World} {N b i left S k : Nat} {B B2 : List Bool} (hN : S + left = N) (hb : left + 65536 * i < 1048576) (hl : 16384 ≤ left) (hk : k = lfst left) (h : WrAt w2 b B2) (h8 : B2.length % 8 = 0) (hle : B2.length ≤ B.length + 16) (hB : B.length ≤ 16 * i) (hbl : Below w.heap.size w w2) : RelP w N b (.int .i64 ((left : Int) - (k : Int))) (.int .i64 ((S : Int) + (k : Int))) (.int .i64 ((i : Int) + 1)) w2 := by
  obtain ⟨m, m1, m4, hm, hmin⟩ := lfst_frag hl
  rw [hm] at hk
  subst hk
  exact ⟨i + 1, left - 16384 * m, S + 16384 * m, B2, by go_num, by rw [show ((left - 16384 * m : Nat) : Int) = (left : Int) - ((16384 * m : Nat) : Int) by omega], by rw [show ((S + 16384 * m : Nat) : Int) = (S : Int) + ((16384 * m : Nat) : Int) by omega], by omega, by omega, h, h8, by omega, hbl⟩
set_option maxHeartbeats 8000000 in
set_option maxRecDepth 2000000 in
theorem walk_main (w : World) (n : Int) (N : Nat) (hand : bits .and .i64 n 1048575 = (N : Int)) (hN : N < 1048576) :
    Calls Try.prog 7 #[.int .i64 n] w fun e w' => e = .returned (.bool true) ∧ Below w.heap.size w w' := by
  go_enter Try.func7, Try.ntmps7
  go_wp2_with fail
  refine (lawake _).mono ?_
  rintro e wa ⟨rfl, hb⟩
  have HB := Lib.hid hb
  clear hb
  go_wp2_with (refine wpList_box_writer rfl rfl rfl 14 rfl rfl (by kernel_rfl) ?_; intro w1 hw1 hb1 hs1)
  have HW1 := Lib.hid hw1
  have hs := HB.out.size
  have HB1 := Lib.hid (HB.out.trans (hb1.mono hs))
  have hbw : w.heap.size ≤ wa.heap.size := hs
  clear hw1 hb1 HB
  generalize wa.heap.size = b at *
  go_loopw [4, 5, 7] (fun lv sv iv wr => RelP w N b lv sv iv wr) (fun _ _ iv _ => 20 - (intOf iv).toNat)
  case atStart => exact ⟨0, N, 0, [], rfl, rfl, rfl, by omega, .inl (by omega), HW1.out, rfl, Nat.le_refl _, HB1.out⟩
  case round =>
    obtain ⟨i, left, S, B, rfl, rfl, rfl, hSN, hcase, hwr, h8, hB16, hbl⟩ := hrel
    have hp := lput_any wr b B true left 0 (-1) hwr (by omega) (by omega) (by omega) (by omega)
    obtain ⟨p1, p2, p3, p4⟩ := lPut_nat left true B
    rw [p1, p2, p3, p4] at hp
    have HP := Lib.hid hp
    clear hp
    have HWR := Lib.hid hwr
    have HBL := Lib.hid hbl
    obtain ⟨e8, e16⟩ := putF_even B (lfst left) h8
    have q0 : decide ((i : Int) < 20) = true := decide_eq_true (by omega)
    have hkl := (lfst_le left).1
    clear hwr hbl p1 p2 p3 p4
    by_cases hlt : left < 16384
    · rw [lfst_small hlt, decide_eq_false (show ¬ 16384 ≤ left by omega)] at HP
      rw [lfst_small hlt] at e8
      have hq1 : ((S : Int) + (left : Int) == (N : Int)) = true := by rw [beq_iff_eq]; omega
      obtain ⟨l, hl⟩ : ∃ l, (putF true B left).length = l := ⟨_, rfl⟩
      rw [hl] at e8
      have hq2 : ((l : Int) % 8 == 0) = true := by rw [beq_iff_eq]; omega
      have HL : Go.RowKit.Hid (∀ w, WrAt w b (putF true B left) → Calls Try.prog 19 #[.pointer (some ⟨b, 0, none⟩)] w fun e w' => e = .returned (.int .i64 l) ∧ w = w') := fun w h => by
        have := len_ok w b _ h
        rw [hl] at this
        exact this
      have hS : S ≤ 1048576 := by omega
      clear hl e8 e16 hSN hcase h8 hB16
      generalize putF true B left = B2 at *
      go_wp2_with fail
      refine HP.out.mono ?_
      rintro e w2 ⟨rfl, h1, h2⟩
      have H1 := Lib.hid h1
      have H2 := Lib.hid (HBL.out.trans (h2.below hbw HBL.out.size))
      clear h1 h2 HP HWR HBL
      go_wp2_with fail
      refine (HL.out w2 H1.out).mono ?_
      rintro e w3 ⟨rfl, rfl⟩
      go_wp2_with fail
      go_ret
      exact ⟨rfl, H2.out⟩
    · have hl16 : 16384 ≤ left := by omega
      have hcs : left + 65536 * i < 1048576 := by omega
      obtain ⟨m, m1, m4, hm, hmin⟩ := lfst_frag hl16
      rw [decide_eq_true hl16] at HP
      have hkeep : lfst left = 16384 * m := hm
      have q8 : decide ((lfst left : Int) < 0) = false := decide_eq_false (by omega)
      have q1 : decide ((lfst left : Int) < 16384) = false := decide_eq_false (by omega)
      have q2 : decide ((left : Int) < (lfst left : Int)) = false := decide_eq_false (by omega)
      have q3 : decide ((lfst left : Int) < 65536) = false ∨ decide ((lfst left : Int) < 65536) = true ∧ decide ((16384 : Int) ≤ (left : Int) - (lfst left : Int)) = false := by
        rcases Nat.lt_or_ge m 4 with h | h
        · exact .inr ⟨decide_eq_true (by omega), decide_eq_false (by omega)⟩
        · exact .inl (decide_eq_false (by omega))
      have HN : Go.RowKit.Hid (∀ {w w2 : World} {B2 : List Bool}, WrAt w2 b B2 → B2.length % 8 = 0 → B2.length ≤ B.length + 16 → Below w.heap.size w w2 → RelP w N b (.int .i64 ((left : Int) - (lfst left : Int))) (.int .i64 ((S : Int) + (lfst left : Int))) (.int .i64 ((i : Int) + 1)) w2) := fun h h8 hle hbl => relP_next hSN hcs hl16 rfl h h8 hle hB16 hbl
      have hS : S ≤ 1048576 := by omega
      have hi : i ≤ 16 := by omega
      have hl20 : left ≤ 1048576 := by omega
      have HE8 := Lib.hid e8
      have HE16 := Lib.hid e16
      clear hm hmin hkeep hSN hcase h8 hB16 e8 e16 hlt hcs
      generalize putF true B (lfst left) = B2 at *
      generalize lfst left = kk at *
      rcases q3 with q3 | ⟨q3, q4⟩
      all_goals
        go_wp2_with fail
        refine HP.out.mono ?_
        rintro e w2 ⟨rfl, h1, h2⟩
        have H1 := Lib.hid h1
        have H2 := Lib.hid (HBL.out.trans (h2.below hbw HBL.out.size))
        clear h1 h2 HP HWR HBL
        go_wp2_with fail
        go_roundw
        case rel => exact HN.out H1.out HE8.out HE16.out H2.out
        case measure => simp [intOf]; omega
theorem walk (w : World) (n : Int) (w0 : (Lit.int .i64 n).wf = true) :
    Calls Try.prog 7 #[.int .i64 n] w fun e w' => e = .returned (.bool true) ∧ Below w.heap.size w w' :=
  walk_main w n (n % 1048576).toNat (by rw [i64_and20]; omega) (by omega)

set_option maxRecDepth 100000 in
theorem lifted (os : Os) (started : os.Started) (H : Type) (enc : TypeId × Value → H) :
    ReturnsInHanded {} Try.checked os 7 .any (Rows.lengthPiecesSpec.pre6 enc Try.prog Try.f7 Rows.lengthPiecesRow.domain false) (Rows.lengthPiecesSpec.post enc Try.prog Try.f7 false true false false) := by
  refine returnsInHanded_of_change (C := Try.checked) own started (by kernel_rfl) Try.func7
    (ChangeSpec.witness6 (enc := enc) (C := Try.checked) false ⟨#[], #[.int .i64 0], []⟩ 8 (by kernel_rfl) (by kernel_rfl) (by kernel_rfl) (by kernel_rfl)) ?_
  intro W base args ds gs before hval0 hW hcnd _
  have hval : ∀ (j : Nat) t v, Try.f7.params[j]? = some t → args[j]? = some v → Value.okWide Try.prog W .any base t v := hval0
  have hW' := hW
  obtain ⟨p, q, hA0, hV, rfl, hfz, hnd⟩ := hW
  have hA : DataW.TrodAll enc Try.prog W 0 (fun _ => true) true Try.f7.params.toList args.toList ds p := hA0
  rw [Try.params7] at hA hval
  obtain ⟨v0, vs0, d0, ds0, p0, q0, hargs, rfl, rfl, h0, r0⟩ := trodAll_cons hA
  obtain ⟨rfl, rfl, rfl⟩ := trodAll_nil r0
  obtain rfl : args = #[v0] := by cases args; simp_all
  obtain ⟨rfl, rfl⟩ := trodVars_none hV
  obtain ⟨a0, rfl, rfl, rfl, w0⟩ := open_int Try.underlying3 (hval 0 3 v0 rfl rfl) h0
  clear hA0 hval0
  refine (walk W a0 w0).mono fun e W' ⟨he, bel⟩ => ?_
  subst he
  exact ⟨_, rfl, _, _, _, [], _, [], hW', trodAll_mk1 (shut_bool Try.underlying4 _), (trodAll_cons_mk (shut_int Try.underlying3 w0) trodAll_mk0), rfl, bel.frame _, fun h => by cases h⟩

theorem over : Rows.lengthPiecesRow.holds Try.pinned (OpenSpec.ofChange Rows.lengthPiecesSpec) :=
  OpenClaim.holds_of_wide 7 Try.f7 rfl rfl rfl rfl rfl rfl rfl ⟨rfl, rfl, rfl, rfl, rfl⟩ rfl rfl rfl rfl rfl (by kernel_rfl) Try.func7 (by kernel_rfl)
    (of_decide_eq_true (by kernel_rfl)) (by unfold Func.isWrapper; first | (rw [if_pos (by decide +kernel)]; kernel_rfl) | (rw [if_neg (by decide +kernel)]; exact ⟨rfl, rfl⟩))
    (fun os started H enc _ => lifted os started H enc)

theorem proved : Rows.LengthPiecesSaid := over
end Go.Proofs.Ytebmmfhkgglkgaa.lengthPieces
