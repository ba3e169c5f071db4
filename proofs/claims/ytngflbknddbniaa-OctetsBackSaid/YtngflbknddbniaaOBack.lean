/-
  Proved: the statement OctetsBack (a number that is written as octets, without a sign and with one, and read, is what it was), for every input; no further condition.
-/
import Derived.Test.YtngflbknddbniaaRows
import Derived.Test.YtngflbknddbniaaOLaw
import Derived.ProofKit
import Derived.OpenShut
import Derived.ShutString
import Derived.ChangeOld
namespace Go.Proofs.Ytngflbknddbniaa.octetsBack
open Go.ChangeShapes Go.WideShapes Go.ChangeAt Go.RowKit
open Go.ChangeMaps (open_string shut_string)
set_option linter.unusedVariables false
set_option linter.unusedSimpArgs false

theorem own : ownKnob Try.prog.godebug = none := by kernel_rfl
theorem laidOut : laidOutB Try.prog = true := by kernel_rfl

set_option maxHeartbeats 2000000 in
theorem walk (w : World) (v : Int) (w0 : (Lit.int .u64 v).wf = true) (n : Int) (w1 : (Lit.int .i64 n).wf = true) :
    Calls Try.prog 11 #[.int .u64 v, .int .i64 n] w fun e w' => e = .returned (.bool true) ∧ Below w.heap.size w w' := by
  have b0 := u64_bounds w0
  have b1 := i64_bounds w1
  obtain ⟨v, rfl⟩ : ∃ m : Nat, v = m := ⟨v.toNat, by omega⟩
  have hv : v < 2 ^ 64 := by omega
  have hn := mag_lt n b1.1 b1.2
  have f1 := umin_low v hv
  have f2 : uerr (low v (cnt v)) = 0 := by
    have := cnt_le v hv
    unfold uerr
    rw [if_neg, if_neg (by rw [low_length]; omega)]
    rintro (h | h)
    · exact f1.1 h
    · rcases f1.2 with h1 | h1
      · exact h.1 h1
      · exact h1 h.2
  have f3 : uval (low v (cnt v)) = v := by rw [uval_good f2, unum_low, Nat.mod_eq_of_lt (cnt_lt v hv)]
  have g1 := snum_low n hn
  have g2 : serr (low (u64n n) (scnt n)) = 0 := by
    have := scnt_le n hn
    unfold serr
    rw [if_neg, if_neg (by rw [low_length]; omega)]
    rintro (h | h)
    · exact g1.2.1 h
    · rcases g1.2.2 with h1 | h1
      · exact h.1 h1
      · exact h1 h.2
  have g3 : sval (low (u64n n) (scnt n)) = n := by rw [sval_good g2, g1.1]
  have l1 : (low v (cnt v)).length ≤ 9223372036854775807 := by rw [low_length]; have := cnt_le v hv; omega
  have l2 : (low (u64n n) (scnt n)).length ≤ 9223372036854775807 := by rw [low_length]; have := scnt_le n hn; omega
  clear f1 g1 w0 w1 b0 b1
  go_enter Try.func11, Try.ntmps11
  go_wp2_with fail
  refine (oawake _).mono ?_
  rintro e w1 ⟨rfl, hb⟩
  have HB1 := Lib.hid hb
  clear hb
  go_wp2_with fail
  refine (unsigned_ok v w1 hv).mono ?_
  rintro e w2 ⟨s, rfl, hs, hb⟩
  have HB2 := Lib.hid (HB1.out.trans (hb.mono HB1.out.size))
  have HS := Lib.hid hs.sl
  clear hb hs HB1
  go_wp2_with fail
  refine (fromU_ok w2 s _ HS.out l1).mono ?_
  rintro e w3 ⟨rfl, rfl⟩
  rw [f2, f3]
  clear HS f2 f3 l1
  go_wp2_with fail
  refine (signed_ok n w2 hn).mono ?_
  rintro e w3 ⟨s, rfl, hs, hb⟩
  have HB3 := Lib.hid (HB2.out.trans (hb.mono HB2.out.size))
  have HS := Lib.hid hs.sl
  clear hb hs HB2
  go_wp2_with fail
  refine (fromS_ok w3 s _ HS.out l2).mono ?_
  rintro e w4 ⟨rfl, hb⟩
  rw [g2, g3]
  have HB4 := Lib.hid (HB3.out.trans (hb.mono HB3.out.size))
  clear HS g2 g3 l2 HB3 hb
  go_wp2_with fail
  go_ret
  exact ⟨rfl, HB4.out⟩

set_option maxRecDepth 100000 in
theorem lifted (os : Os) (started : os.Started) (H : Type) (enc : TypeId × Value → H) :
    ReturnsInHanded {} Try.checked os 11 .any (Rows.octetsBackSpec.pre6 enc Try.prog Try.f11 Rows.octetsBackRow.domain false) (Rows.octetsBackSpec.post enc Try.prog Try.f11 false true false false) := by
  refine returnsInHanded_of_change (C := Try.checked) own started (by kernel_rfl) Try.func11
    (ChangeSpec.witness6 (enc := enc) (C := Try.checked) false ⟨#[], #[.int .u64 0, .int .i64 0], []⟩ 8 (by kernel_rfl) (by kernel_rfl) (by kernel_rfl) (by kernel_rfl)) ?_
  intro W base args ds gs before hval0 hW hcnd _
  have hval : ∀ (j : Nat) t v, Try.f11.params[j]? = some t → args[j]? = some v → Value.okWide Try.prog W .any base t v := hval0
  have hW' := hW
  obtain ⟨p, q, hA0, hV, rfl, hfz, hnd⟩ := hW
  have hA : DataW.TrodAll enc Try.prog W 0 (fun _ => true) true Try.f11.params.toList args.toList ds p := hA0
  rw [Try.params11] at hA hval
  obtain ⟨v0, vs0, d0, ds0, p0, q0, hargs, rfl, rfl, h0, r0⟩ := trodAll_cons hA
  obtain ⟨v1, vs1, d1, ds1, p1, q1, rfl, rfl, rfl, h1, r1⟩ := trodAll_cons r0
  obtain ⟨rfl, rfl, rfl⟩ := trodAll_nil r1
  obtain rfl : args = #[v0, v1] := by cases args; simp_all
  obtain ⟨rfl, rfl⟩ := trodVars_none hV
  obtain ⟨a0, rfl, rfl, rfl, w0⟩ := open_int Try.underlying29 (hval 0 29 v0 rfl rfl) h0
  obtain ⟨a1, rfl, rfl, rfl, w1⟩ := open_int Try.underlying3 (hval 1 3 v1 rfl rfl) h1
  clear hA0 hval0
  refine (walk W a0 w0 a1 w1).mono fun e W' ⟨he, bel⟩ => ?_
  subst he
  exact ⟨_, rfl, _, _, _, [], _, [], hW', trodAll_mk1 (shut_bool Try.underlying4 _), (trodAll_cons_mk (shut_int Try.underlying29 w0) (trodAll_cons_mk (shut_int Try.underlying3 w1) trodAll_mk0)), rfl, bel.frame _, fun h => by cases h⟩

theorem over : Rows.octetsBackRow.holds Try.pinned (OpenSpec.ofChange Rows.octetsBackSpec) :=
  OpenClaim.holds_of_wide 11 Try.f11 rfl rfl rfl rfl rfl rfl rfl ⟨rfl, rfl, rfl, rfl, rfl⟩ rfl rfl rfl rfl rfl (by kernel_rfl) Try.func11 (by kernel_rfl)
    (of_decide_eq_true (by kernel_rfl)) (by unfold Func.isWrapper; first | (rw [if_pos (by decide +kernel)]; kernel_rfl) | (rw [if_neg (by decide +kernel)]; exact ⟨rfl, rfl⟩))
    (fun os started H enc _ => lifted os started H enc)

theorem proved : Rows.OctetsBackSaid := over
end Go.Proofs.Ytngflbknddbniaa.octetsBack
