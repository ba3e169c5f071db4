/-
  Proved: the statement OctetsOrder (of two numbers without a sign the smaller one has no more octets; as many octets hold a number as its bits need, one at least), for every input; no further condition.
-/
import Derived.Test.YtngflbknddbniaaRows
import Derived.Test.YtngflbknddbniaaOLaw
import Derived.ProofKit
import Derived.OpenShut
import Derived.ShutString
import Derived.ChangeOld
namespace Go.Proofs.Ytngflbknddbniaa.octetsOrder
open Go.ChangeShapes Go.WideShapes Go.ChangeAt Go.RowKit
open Go.ChangeMaps (open_string shut_string)
set_option linter.unusedVariables false
set_option linter.unusedSimpArgs false

theorem own : ownKnob Try.prog.godebug = none := by kernel_rfl
theorem laidOut : laidOutB Try.prog = true := by kernel_rfl

theorem and63 (a : Int) : bits BinOp.and .i64 a 63 = a % 64 := by
  have h63 : (BitVec.ofInt 64 63).toNat = 2 ^ 6 - 1 := by decide
  have key : (BitVec.ofInt 64 a &&& BitVec.ofInt 64 63).toNat = (a % ((2 ^ 64 : Nat) : Int)).toNat % 2 ^ 6 := by
    rw [BitVec.toNat_and, BitVec.toNat_ofInt, h63, Nat.and_two_pow_sub_one_eq_mod]
  show IntKind.i64.wrap ((BitVec.ofInt 64 a &&& BitVec.ofInt 64 63).toNat : Nat) = a % 64
  rw [key, IntKind.wrap_i64]
  omega
set_option maxHeartbeats 2000000 in
theorem walk_in1 (w : World) (v u : Nat) (hv : v < 2 ^ 64) (hu : u < 2 ^ 64) (c d x : Nat) (hc : cnt v = c) (hd : cnt u = d) (hx : wid v = x) (h1 : 1 ≤ c) (h8 : c ≤ 8) (h1' : 1 ≤ d) (h8' : d ≤ 8) (hx64 : x ≤ 64) (hxc : x ≤ 8 * c) (hcx : c = 1 ∨ 8 * (c - 1) < x) (hm : u ≤ v → d ≤ c)
    (y : Nat) (hy : y ≤ 63) (hand : bits BinOp.and IntKind.i64 (x : Int) 63 = y) (HQ : Hid ((((x : Int) == 64) || decide ((v : Int) < IntKind.u64.wrap (2 ^ y))) = true)) :
    Calls Try.prog 13 #[.int .u64 v, .int .u64 u] w fun e w' => e = .returned (.bool true) ∧ Below w.heap.size w w' := by
  have CW := fun w => Lib.hid (width_ok v w hv)
  have CC := fun w => Lib.hid (count_ok v w hv)
  have CU := fun w => Lib.hid (unsigned_ok v w hv)
  have CV := fun w => Lib.hid (unsigned_ok u w hu)
  rw [hc] at CC CU
  rw [hd] at CV
  rw [hx] at CW
  clear hc hd hx
  go_enter Try.func13, Try.ntmps13
  go_wp2_with fail
  refine (oawake _).mono ?_
  rintro e w1 ⟨rfl, hb⟩
  have HB1 := Lib.hid hb
  clear hb
  go_wp2_with fail
  refine (CU w1).out.mono ?_
  rintro e w2 ⟨s, rfl, ⟨g, cap, rfl, _, _, _⟩, hb⟩
  rw [low_length]
  have HB2 := Lib.hid (HB1.out.trans (hb.mono HB1.out.size))
  clear hb HB1 CU
  go_wp2_with fail
  refine (CV w2).out.mono ?_
  rintro e w3 ⟨s, rfl, ⟨g', cap', rfl, _, _, _⟩, hb⟩
  rw [low_length]
  have HB3 := Lib.hid (HB2.out.trans (hb.mono HB2.out.size))
  clear hb HB2 CV
  go_wp2_with fail
  refine (CC w3).out.mono ?_
  rintro e w4 ⟨rfl, rfl⟩
  clear CC
  go_wp2_with (go_at_call 38; refine (CW _).out.mono ?_; rintro e w' ⟨rfl, rfl⟩)
  all_goals first
  | (exfalso; omega)
  | (go_ret
     refine ⟨?_, HB3.out⟩
     first
     | rfl
     | exact rbool HQ.out)
theorem walk (w : World) (v : Int) (w0 : (Lit.int .u64 v).wf = true) (u : Int) (w1 : (Lit.int .u64 u).wf = true) :
    Calls Try.prog 13 #[.int .u64 v, .int .u64 u] w fun e w' => e = .returned (.bool true) ∧ Below w.heap.size w w' := by
  have b0 := u64_bounds w0
  have b1 := u64_bounds w1
  obtain ⟨v, rfl⟩ : ∃ m : Nat, v = m := ⟨v.toNat, by omega⟩
  obtain ⟨u, rfl⟩ : ∃ m : Nat, u = m := ⟨u.toNat, by omega⟩
  have hv : v < 2 ^ 64 := by omega
  have hu : u < 2 ^ 64 := by omega
  refine walk_in1 w v u hv hu _ _ _ rfl rfl rfl (cnt_pos v) (cnt_le v hv) (cnt_pos u) (cnt_le u hu) (wid_le64 v hv) (by unfold cnt; omega) (by unfold cnt; omega) (fun h => cnt_mono u v h hv) (wid v % 64) (by omega) (by rw [and63]; omega) (Lib.hid ?_)
  have h64 := wid_le64 v hv
  have hlt := wid_lt v hv
  by_cases h : wid v = 64
  · rw [h]; rfl
  · rw [Bool.or_eq_true]
    right
    rw [decide_eq_true_eq]
    have e : wid v % 64 = wid v := by omega
    have h63 : 2 ^ wid v ≤ 2 ^ 63 := pow_le (by omega)
    rw [e, IntKind.wrap_u64, show ((2 : Int) ^ wid v) = ((2 ^ wid v : Nat) : Int) by rw [Int.natCast_pow]; rfl]
    omega

set_option maxRecDepth 100000 in
theorem lifted (os : Os) (started : os.Started) (H : Type) (enc : TypeId × Value → H) :
    ReturnsInHanded {} Try.checked os 13 .any (Rows.octetsOrderSpec.pre6 enc Try.prog Try.f13 Rows.octetsOrderRow.domain false) (Rows.octetsOrderSpec.post enc Try.prog Try.f13 false true false false) := by
  refine returnsInHanded_of_change (C := Try.checked) own started (by kernel_rfl) Try.func13
    (ChangeSpec.witness6 (enc := enc) (C := Try.checked) false ⟨#[], #[.int .u64 0, .int .u64 0], []⟩ 8 (by kernel_rfl) (by kernel_rfl) (by kernel_rfl) (by kernel_rfl)) ?_
  intro W base args ds gs before hval0 hW hcnd _
  have hval : ∀ (j : Nat) t v, Try.f13.params[j]? = some t → args[j]? = some v → Value.okWide Try.prog W .any base t v := hval0
  have hW' := hW
  obtain ⟨p, q, hA0, hV, rfl, hfz, hnd⟩ := hW
  have hA : DataW.TrodAll enc Try.prog W 0 (fun _ => true) true Try.f13.params.toList args.toList ds p := hA0
  rw [Try.params13] at hA hval
  obtain ⟨v0, vs0, d0, ds0, p0, q0, hargs, rfl, rfl, h0, r0⟩ := trodAll_cons hA
  obtain ⟨v1, vs1, d1, ds1, p1, q1, rfl, rfl, rfl, h1, r1⟩ := trodAll_cons r0
  obtain ⟨rfl, rfl, rfl⟩ := trodAll_nil r1
  obtain rfl : args = #[v0, v1] := by cases args; simp_all
  obtain ⟨rfl, rfl⟩ := trodVars_none hV
  obtain ⟨a0, rfl, rfl, rfl, w0⟩ := open_int Try.underlying29 (hval 0 29 v0 rfl rfl) h0
  obtain ⟨a1, rfl, rfl, rfl, w1⟩ := open_int Try.underlying29 (hval 1 29 v1 rfl rfl) h1
  clear hA0 hval0
  refine (walk W a0 w0 a1 w1).mono fun e W' ⟨he, bel⟩ => ?_
  subst he
  exact ⟨_, rfl, _, _, _, [], _, [], hW', trodAll_mk1 (shut_bool Try.underlying4 _), (trodAll_cons_mk (shut_int Try.underlying29 w0) (trodAll_cons_mk (shut_int Try.underlying29 w1) trodAll_mk0)), rfl, bel.frame _, fun h => by cases h⟩

theorem over : Rows.octetsOrderRow.holds Try.pinned (OpenSpec.ofChange Rows.octetsOrderSpec) :=
  OpenClaim.holds_of_wide 13 Try.f13 rfl rfl rfl rfl rfl rfl rfl ⟨rfl, rfl, rfl, rfl, rfl⟩ rfl rfl rfl rfl rfl (by kernel_rfl) Try.func13 (by kernel_rfl)
    (of_decide_eq_true (by kernel_rfl)) (by unfold Func.isWrapper; first | (rw [if_pos (by decide +kernel)]; kernel_rfl) | (rw [if_neg (by decide +kernel)]; exact ⟨rfl, rfl⟩))
    (fun os started H enc _ => lifted os started H enc)

theorem proved : Rows.OctetsOrderSaid := over
end Go.Proofs.Ytngflbknddbniaa.octetsOrder
