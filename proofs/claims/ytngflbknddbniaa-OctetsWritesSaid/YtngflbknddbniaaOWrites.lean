/-
  Proved: the statement OctetsWrites (what any number is in octets, with a sign and without, and how many bits and octets it needs, is what the document says), for every input; no further condition.
-/
import Derived.Test.YtngflbknddbniaaRows
import Derived.Test.YtngflbknddbniaaOref
import Derived.ProofKit
import Derived.OpenShut
import Derived.ShutString
import Derived.ChangeOld
namespace Go.Proofs.Ytngflbknddbniaa.octetsWrites
open Go.ChangeShapes Go.WideShapes Go.ChangeAt Go.RowKit
open Go.ChangeMaps (open_string shut_string)
set_option linter.unusedVariables false
set_option linter.unusedSimpArgs false

theorem own : ownKnob Try.prog.godebug = none := by kernel_rfl
theorem laidOut : laidOutB Try.prog = true := by kernel_rfl

set_option maxHeartbeats 2000000 in
theorem walk (w : World) (v : Int) (w0 : (Lit.int .u64 v).wf = true) (n : Int) (w1 : (Lit.int .i64 n).wf = true) :
    Calls Try.prog 9 #[.int .u64 v, .int .i64 n] w fun e w' => e = .returned (.bool true) ∧ Below w.heap.size w w' := by
  have b0 := u64_bounds w0
  have b1 := i64_bounds w1
  obtain ⟨v, rfl⟩ : ∃ m : Nat, v = m := ⟨v.toNat, by omega⟩
  have hv : v < 2 ^ 64 := by omega
  have hn := mag_lt n b1.1 b1.2
  clear w0 w1
  go_enter Try.func9, Try.ntmps9
  go_wp2_with fail
  refine (oawake _).mono ?_
  rintro e w1 ⟨rfl, hb⟩
  have HB1 := Lib.hid hb
  clear hb
  go_wp2_with (first | (go_at_call 38; refine (width_ok v _ hv).mono ?_; rintro e w' ⟨rfl, rfl⟩) | (go_at_call 39; refine (rwidth_ok v _ hv).mono ?_; rintro e w' ⟨rfl, rfl⟩) | (go_at_call 40; refine (count_ok v _ hv).mono ?_; rintro e w' ⟨rfl, rfl⟩) | (go_at_call 41; refine (rcount_ok v _ hv).mono ?_; rintro e w' ⟨rfl, rfl⟩))
  refine (unsigned_ok v w1 hv).mono ?_
  rintro e w2 ⟨s, rfl, hs, hb⟩
  have HB2 := Lib.hid (HB1.out.trans (hb.mono HB1.out.size))
  have HS := Lib.hid hs.sl
  clear hb hs HB1
  go_wp2_with fail
  refine (runsigned_ok v w2 hv).mono ?_
  rintro e w3 ⟨s2, rfl, hs, hb⟩
  have HB3 := Lib.hid (HB2.out.trans (hb.mono HB2.out.size))
  have HT := Lib.hid hs.sl
  have HS3 := Lib.hid (HS.out.below hb)
  clear hb hs HB2 HS
  go_wp2_with fail
  refine (osame_yes w3 _ _ _ HS3.out HT.out).mono ?_
  rintro e w4 ⟨rfl, rfl⟩
  clear HS3 HT
  go_wp2_with fail
  refine (signed_ok n w3 hn).mono ?_
  rintro e w4 ⟨s3, rfl, hs, hb⟩
  have HB4 := Lib.hid (HB3.out.trans (hb.mono HB3.out.size))
  have HS := Lib.hid hs.sl
  clear hb hs HB3
  go_wp2_with fail
  refine (rsigned_ok n w4 hn b1.1 b1.2).mono ?_
  rintro e w5 ⟨s4, rfl, hs, hb⟩
  have HB5 := Lib.hid (HB4.out.trans (hb.mono HB4.out.size))
  have HT := Lib.hid hs.sl
  have HS5 := Lib.hid (HS.out.below hb)
  clear hb hs HB4 HS
  go_wp2_with fail
  refine (osame_yes w5 _ _ _ HS5.out HT.out).mono ?_
  rintro e w6 ⟨rfl, rfl⟩
  go_wp2_with fail
  go_ret
  exact ⟨rfl, HB5.out⟩

set_option maxRecDepth 100000 in
theorem lifted (os : Os) (started : os.Started) (H : Type) (enc : TypeId × Value → H) :
    ReturnsInHanded {} Try.checked os 9 .any (Rows.octetsWritesSpec.pre6 enc Try.prog Try.f9 Rows.octetsWritesRow.domain false) (Rows.octetsWritesSpec.post enc Try.prog Try.f9 false true false false) := by
  refine returnsInHanded_of_change (C := Try.checked) own started (by kernel_rfl) Try.func9
    (ChangeSpec.witness6 (enc := enc) (C := Try.checked) false ⟨#[], #[.int .u64 0, .int .i64 0], []⟩ 8 (by kernel_rfl) (by kernel_rfl) (by kernel_rfl) (by kernel_rfl)) ?_
  intro W base args ds gs before hval0 hW hcnd _
  have hval : ∀ (j : Nat) t v, Try.f9.params[j]? = some t → args[j]? = some v → Value.okWide Try.prog W .any base t v := hval0
  have hW' := hW
  obtain ⟨p, q, hA0, hV, rfl, hfz, hnd⟩ := hW
  have hA : DataW.TrodAll enc Try.prog W 0 (fun _ => true) true Try.f9.params.toList args.toList ds p := hA0
  rw [Try.params9] at hA hval
  obtain ⟨v0, vs0, d0, ds0, p0, q0, hargs, rfl, rfl, h0, r0⟩ := trodAll_cons hA
  obtain ⟨v1, vs1, d1, ds1, p1, q1, rfl, rfl, rfl, h1, r1⟩ := trodAll_cons r0
  obtain ⟨rfl, rfl, rfl⟩ := trodAll_nil r1
  obtain rfl : args = #[v0, v1] := by cases args; simp_all
  obtain ⟨rfl, rfl⟩ := trodVars_none hV
  obtain ⟨a0, rfl, rfl, rfl, w0⟩ := open_int Try.underlying29 (hval 0 29 v0 rfl rfl) h0
  obtain ⟨a1, rfl, rfl, rfl, w1⟩ := open_int Try.underlying3 (hval 1 3 v1 rfl rfl) h1
  clear hA0 hval0
  refine (walk W a0 w0 a1 w1).mono fun e W' ⟨he, bel⟩ => ?_
  subst he
  exact ⟨_, rfl, _, _, _, [], _, [], hW', trodAll_mk1 (shut_bool Try.underlying4 _), (trodAll_cons_mk (shut_int Try.underlying29 w0) (trodAll_cons_mk (shut_int Try.underlying3 w1) trodAll_mk0)), rfl, bel.frame _, fun h => by cases h⟩

theorem over : Rows.octetsWritesRow.holds Try.pinned (OpenSpec.ofChange Rows.octetsWritesSpec) :=
  OpenClaim.holds_of_wide 9 Try.f9 rfl rfl rfl rfl rfl rfl rfl ⟨rfl, rfl, rfl, rfl, rfl⟩ rfl rfl rfl rfl rfl (by kernel_rfl) Try.func9 (by kernel_rfl)
    (of_decide_eq_true (by kernel_rfl)) (by unfold Func.isWrapper; first | (rw [if_pos (by decide +kernel)]; kernel_rfl) | (rw [if_neg (by decide +kernel)]; exact ⟨rfl, rfl⟩))
    (fun os started H enc _ => lifted os started H enc)

theorem proved : Rows.OctetsWritesSaid := over
end Go.Proofs.Ytngflbknddbniaa.octetsWrites
