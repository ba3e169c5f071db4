/-
  Proved: the statement StreamOctets (octets are read, from any place on, as eight bits each, one behind the other; where too few are left none is read), for every input; no further condition.
-/
import Derived.Test.YtekoilcjghclcaaRows
import Derived.Test.YtekoilcjghclcaaRead2
import Derived.ProofKit
import Derived.OpenShut
import Derived.ShutString
import Derived.ChangeOld
namespace Go.Proofs.Ytekoilcjghclcaa.streamOctets
open Go.ChangeShapes Go.WideShapes Go.ChangeAt Go.RowKit
open Go.ChangeMaps (open_string shut_string)
set_option linter.unusedVariables false
set_option linter.unusedSimpArgs false

theorem own : ownKnob Try.prog.godebug = none := by kernel_rfl
theorem laidOut : laidOutB Try.prog = true := by kernel_rfl

theorem and63 (a : Int) : bits BinOp.and .i64 a 63 = a % 64 := by
  have h63 : (BitVec.ofInt 64 63).toNat = 2 ^ 6 - 1 := by decide
  have key : (BitVec.ofInt 64 a &&& BitVec.ofInt 64 63).toNat = (a % ((2 ^ 64 : Nat) : Int)).toNat % 2 ^ 6 := by
    rw [BitVec.toNat_and, BitVec.toNat_ofInt, h63, Nat.and_two_pow_sub_one_eq_mod]
  show IntKind.i64.wrap ((BitVec.ofInt 64 a &&& BitVec.ofInt 64 63).toNat : Nat) = a % 64
  rw [key, IntKind.wrap_i64]
  omega
theorem and7 (a : Int) : bits BinOp.and .i64 a 7 = a % 8 := by
  have h7 : (BitVec.ofInt 64 7).toNat = 2 ^ 3 - 1 := by decide
  have key : (BitVec.ofInt 64 a &&& BitVec.ofInt 64 7).toNat = (a % ((2 ^ 64 : Nat) : Int)).toNat % 2 ^ 3 := by
    rw [BitVec.toNat_and, BitVec.toNat_ofInt, h7, Nat.and_two_pow_sub_one_eq_mod]
  show IntKind.i64.wrap ((BitVec.ofInt 64 a &&& BitVec.ofInt 64 7).toNat : Nat) = a % 8
  rw [key, IntKind.wrap_i64]
  omega
/-- where a Reader stands that has been asked for K bits at its start -/
def pp (L : List Nat) (K : Nat) : Nat := if K ≤ 8 * L.length then K else 0
theorem get_pp (w : World) (b : Nat) {s : Value} (L : List Nat) (K : Nat) (h : RdAt w b s L 0) (hL : L.length ≤ 10000000000) (hK : K ≤ 64) :
    Calls Try.prog 22 #[.pointer (some ⟨b, 0, none⟩), .int .i64 K] w fun e w' => (∃ u v, e = .returned (.tuple #[u, v])) ∧ RdAt w' b s L (pp L K) ∧ Only b w w' := by
  unfold pp
  by_cases hle : K ≤ 8 * L.length
  · rw [if_pos hle]
    refine (get_ok w b L 0 K h hL hK (by omega)).mono ?_
    rintro e w' ⟨rfl, h1, h2⟩
    rw [Nat.zero_add] at h1
    exact ⟨⟨_, _, rfl⟩, h1, h2⟩
  · rw [if_neg hle]
    refine (get_short w b L 0 K h hL hK (by omega)).mono ?_
    rintro e w' ⟨rfl, h1⟩
    exact ⟨⟨_, _, rfl⟩, h.still h1, h1.only b⟩

set_option maxHeartbeats 2000000 in
set_option maxRecDepth 100000 in
theorem walk_long (w : World) (a : Option Addr) (len cap : Nat) (a1 a2 : Int) (hout : (300 : Int) < len) :
    Calls Try.prog 8 #[.slice a len cap, .int .i64 a1, .int .i64 a2] w fun e w' => e = .returned (.bool true) ∧ Below w.heap.size w w' := by
  go_enter Try.func8, Try.ntmps8
  go_wp2_with (go_at_call 9; refine (awake_any _).mono ?_; rintro e wa ⟨rfl, hba⟩; have HB := Lib.hid hba; clear hba)
  go_ret
  exact ⟨rfl, HB.out⟩
set_option maxHeartbeats 2000000 in
set_option maxRecDepth 100000 in
theorem walk_main (w : World) (a : Option Addr) (len cap : Nat) (l : List Nat) (hsl : SlAt w (.slice a len cap) l) (hl : l.length = len) (a1 a2 : Int) (K m : Nat) (e1 : bits BinOp.and .i64 a1 7 = K) (e2 : bits BinOp.and .i64 a2 63 = m) (hK : K ≤ 7) (hm : m ≤ 63) (hin : (len : Int) ≤ 300) :
    Calls Try.prog 8 #[.slice a len cap, .int .i64 a1, .int .i64 a2] w fun e w' => e = .returned (.bool true) ∧ Below w.heap.size w w' := by
  have HSL := Lib.hid hsl
  have HL := Lib.hid hl
  clear hsl hl
  go_enter Try.func8, Try.ntmps8
  go_wp2_with (go_at_call 9; refine (awake_any _).mono ?_; rintro e wa ⟨rfl, hba⟩; have HB := Lib.hid hba; clear hba)
  refine (new_ok _ _ l (HSL.out.below HB.out) (by have := HL.out; omega)).mono ?_
  rintro e w1 ⟨s1, r, rfl, hr1, hrd1, hb1⟩
  have HB1 := Lib.hid (HB.out.trans (hb1.mono HB.out.size))
  have HR1 := Lib.hid hrd1
  have hbs := HB.out.size
  clear hrd1 hb1
  go_wp2_with fail
  refine (new_ok _ _ l (HSL.out.below HB1.out) (by have := HL.out; omega)).mono ?_
  rintro e w2 ⟨s2, q, rfl, hq2, hrd2, hb2⟩
  have HB2 := Lib.hid (HB1.out.trans (hb2.mono HB1.out.size))
  have HR2 := Lib.hid (HR1.out.below hb2)
  have HQ2 := Lib.hid hrd2
  have hrq : r < q := by have := HR1.out.lt; omega
  have hrw : w.heap.size ≤ r := by omega
  clear hrd2 hb2 hr1 hq2 hbs HR1 HB1 HB
  go_wp2_with fail
  refine (get_pp w2 r l K HR2.out (by have := HL.out; omega) (by omega)).mono ?_
  rintro e w3 ⟨⟨u1, v1, rfl⟩, hr3, ho3⟩
  have HR3 := Lib.hid hr3
  have HQ3 := Lib.hid (HQ2.out.keep ho3 (by omega) HR2.out.no_u8)
  have HB3 := Lib.hid (HB2.out.trans (ho3.below hrw HB2.out.size))
  clear hr3 ho3 HR2 HQ2 HB2
  go_wp2_with fail
  refine (get_pp w3 q l K HQ3.out (by have := HL.out; omega) (by omega)).mono ?_
  rintro e w4 ⟨⟨u2, v2, rfl⟩, hq4, ho4⟩
  have HQ4 := Lib.hid hq4
  have HR4 := Lib.hid (HR3.out.keep ho4 (by omega) HQ3.out.no_u8)
  have HB4 := Lib.hid (HB3.out.trans (ho4.below (by omega) HB3.out.size))
  have hpb : pp l K ≤ 7 := by unfold pp; split <;> omega
  clear hq4 ho4 HR3 HQ3 HB3
  go_wp2_with fail
  refine (pos_ok w4 r l _ HR4.out).mono ?_
  rintro e w' ⟨rfl, rfl⟩
  go_wp2_with fail
  have hple : (pp l K : Int) ≤ 8 * (len : Int) := by have := HR4.out.le; have := HL.out; omega
  revert HQ4 HR4 hpb hple
  generalize pp l K = p
  intro HQ4 HR4 hpb hple
  have hll := HL.out
  by_cases hs : (8 * (len : Int) - p) / 8 < (m : Int)
  · have hz : ((8 * l.length - p : Nat) : Int) / 8 < (m : Int) := by rw [hll]; omega
    clear hll
    refine (roctets_short w4 r l p m HR4.out (by have := HL.out; omega) (by omega) hz).mono ?_
    rintro e w5 ⟨rfl, hst⟩
    have HR5 := Lib.hid (HR4.out.still hst)
    have HB5 := Lib.hid (HB4.out.trans (hst.below _))
    clear hst hz HQ4 HR4 HB4
    go_wp2_with fail
    refine (pos_ok w5 r l p HR5.out).mono ?_
    rintro e w' ⟨rfl, rfl⟩
    go_wp2_with fail
    go_ret
    exact ⟨rfl, HB5.out⟩
  · have hfit : p + 8 * m ≤ 8 * l.length := by rw [hll]; omega
    have hs' : (m : Int) ≤ (8 * (len : Int) - p) / 8 := by omega
    clear hs hll
    refine (roctets_ok w4 r l p m HR4.out (by have := HL.out; omega) hfit).mono ?_
    rintro e w5 ⟨rfl, hr5, hrow5, ho5⟩
    have HR5 := Lib.hid hr5
    have HROW5 := Lib.hid hrow5
    have HQ5 := Lib.hid (HQ4.out.keep ho5 (by omega) HR4.out.no_u8)
    have HB5 := Lib.hid (HB4.out.trans (ho5.below hrw HB4.out.size))
    have hg4 : q < w4.heap.size := HQ4.out.lt
    clear hr5 hrow5 ho5 HQ4 HR4 HB4
    generalize w4.heap.size = g at *
    go_wp2_with fail
    go_loopw [14] (fun i wr => ∃ j : Nat, j ≤ m ∧ i = .int .i64 j ∧ RdAt wr r s1 l (p + 8 * m) ∧ RdAt wr q s2 l (p + 8 * j) ∧ wr.heap[g]? = some (.cells (u8s (octetsAt (bitsOf l) p m)).toArray 5 (0, 0)) ∧ Below w.heap.size w wr) (fun i _ => m - (intOf i).toNat)
    case atStart => exact ⟨0, Nat.zero_le _, rfl, HR5.out, HQ5.out, HROW5.out, HB5.out⟩
    case round =>
      obtain ⟨j, hj, rfl, hr, hq, hrow, hb⟩ := hrel
      have HR6 := Lib.hid hr
      have HQ6 := Lib.hid hq
      have HROW6 := Lib.hid hrow
      have HB6 := Lib.hid hb
      clear hr hq hrow hb
      by_cases hlt : j < m
      · have HC := Lib.hid (get_ok wr q l (p + 8 * j) 8 HQ6.out (by have := HL.out; omega) (by omega) (by omega))
        go_wp2_with fail
        refine HC.out.mono ?_
        rintro e w7 ⟨rfl, hq7, ho7⟩
        have hrow7 : w7.heap[g]? = _ := (ho7.block g (Array.getElem?_eq_some_iff.1 HROW6.out).1 (by omega)).trans HROW6.out
        have hget : (u8s (octetsAt (bitsOf l) p m))[j]? = some (.int .u8 (bitsAt (bitsOf l) (p + 8 * j) 8 : Nat)) := by simp [u8s, octetsAt, hlt]
        have hc7 : w7.cell? ⟨g, j, none⟩ = some (.int .u8 (bitsAt (bitsOf l) (p + 8 * j) 8 : Nat)) := cell_of_list hrow7 hget
        have hlt8 : bitsAt (bitsOf l) (p + 8 * j) 8 < 256 := by
          have := bitsAt_lt (bitsOf l) (p + 8 * j) 8 (by rw [bitsOf_length]; omega)
          simpa using this
        rw [show p + 8 * j + 8 = p + 8 * (j + 1) by omega] at hq7
        have HQ7 := Lib.hid hq7
        have HR7 := Lib.hid (HR6.out.keep ho7 (by omega) HQ6.out.no_u8)
        have HROW7 := Lib.hid hrow7
        have HB7 := Lib.hid (HB6.out.trans (ho7.below (by omega) HB6.out.size))
        clear hq7 ho7 hrow7 hget HC HQ6 HR6 HROW6 HB6
        generalize bitsAt (bitsOf l) (p + 8 * j) 8 = y at *
        go_wp2_with fail
        go_roundw
        case rel => exact ⟨j + 1, by omega, by go_num, HR7.out, HQ7.out, HROW7.out, HB7.out⟩
        case measure => simp [intOf]; omega
      · obtain rfl : j = m := by omega
        go_wp2_with fail
        refine (pos_ok wr r l _ HR6.out).mono ?_
        rintro e w' ⟨rfl, rfl⟩
        go_wp2_with fail
        refine (pos_ok wr q l _ HQ6.out).mono ?_
        rintro e w' ⟨rfl, rfl⟩
        go_wp2_with fail
        go_ret
        exact ⟨rfl, HB6.out⟩

theorem walk (w : World) (a0 : Option Addr) (len0 cap0 : Nat) (z0 : List Int) (w0 : IsRow .u8 w a0 len0 cap0 z0) (a1 : Int) (w1 : (Lit.int .i64 a1).wf = true) (a2 : Int) (w2 : (Lit.int .i64 a2).wf = true) :
    Calls Try.prog 8 #[.slice a0 len0 cap0, .int .i64 a1, .int .i64 a2] w fun e w' => e = .returned (.bool true) ∧ Below w.heap.size w w' := by
  obtain ⟨l, hsl, hl⟩ := sl_of_isRow w0
  by_cases h : (300 : Int) < len0
  · exact walk_long w a0 len0 cap0 a1 a2 h
  · exact walk_main w a0 len0 cap0 l hsl hl a1 a2 (a1 % 8).toNat (a2 % 64).toNat (by rw [and7]; omega) (by rw [and63]; omega) (by omega) (by omega) (by omega)

set_option maxRecDepth 100000 in
theorem lifted (os : Os) (started : os.Started) (H : Type) (enc : TypeId × Value → H) :
    ReturnsInHanded {} Try.checked os 8 .any (Rows.streamOctetsSpec.pre6 enc Try.prog Try.f8 Rows.streamOctetsRow.domain false) (Rows.streamOctetsSpec.post enc Try.prog Try.f8 false true false false) := by
  refine returnsInHanded_of_change (C := Try.checked) own started (by kernel_rfl) Try.func8
    (ChangeSpec.witness6 (enc := enc) (C := Try.checked) false ⟨#[], #[.slice none 0 0, .int .i64 0, .int .i64 0], []⟩ 8 (by kernel_rfl) (by kernel_rfl) (by kernel_rfl) (by kernel_rfl)) ?_
  intro W base args ds gs before hval0 hW hcnd _
  have hval : ∀ (j : Nat) t v, Try.f8.params[j]? = some t → args[j]? = some v → Value.okWide Try.prog W .any base t v := hval0
  have hW' := hW
  obtain ⟨p, q, hA0, hV, rfl, hfz, hnd⟩ := hW
  have hA : DataW.TrodAll enc Try.prog W 0 (fun _ => true) true Try.f8.params.toList args.toList ds p := hA0
  rw [Try.params8] at hA hval
  obtain ⟨v0, vs0, d0, ds0, p0, q0, hargs, rfl, rfl, h0, r0⟩ := trodAll_cons hA
  obtain ⟨v1, vs1, d1, ds1, p1, q1, rfl, rfl, rfl, h1, r1⟩ := trodAll_cons r0
  obtain ⟨v2, vs2, d2, ds2, p2, q2, rfl, rfl, rfl, h2, r2⟩ := trodAll_cons r1
  obtain ⟨rfl, rfl, rfl⟩ := trodAll_nil r2
  obtain rfl : args = #[v0, v1, v2] := by cases args; simp_all
  obtain ⟨rfl, rfl⟩ := trodVars_none hV
  obtain ⟨a0, len0, cap0, rfl⟩ := okWide_slice Try.underlying30 (hval 0 30 v0 rfl rfl)
  have k0 := h0
  have lt0 : ∀ x ∈ p0, x.block < W.heap.size := by obtain ⟨m, hm⟩ := k0; exact DataW.trod_lt m _ _ _ hm
  obtain ⟨z0, w0⟩ : ∃ zs, IsRow .u8 W a0 len0 cap0 zs := by
    obtain ⟨fuel, hf⟩ := h0
    rcases open_ints Try.underlying30 Try.underlying5 (by kernel_rfl) hf with ⟨hcs, _⟩ | ⟨x, l, c, zs, hcs, _, hl, hm, hz, _, hcell, hwz⟩
    · simp [Value.cells] at hcs
      obtain ⟨rfl, rfl, rfl⟩ := hcs
      exact ⟨[], .inl ⟨rfl, rfl, rfl, rfl⟩⟩
    · simp [Value.cells] at hcs
      obtain ⟨rfl, rfl, rfl⟩ := hcs
      exact ⟨zs, .inr ⟨_, rfl, hl, hm, by simpa using hz, hcell, hwz⟩⟩
  obtain ⟨a1, rfl, rfl, rfl, w1⟩ := open_int Try.underlying3 (hval 1 3 v1 rfl rfl) h1
  obtain ⟨a2, rfl, rfl, rfl, w2⟩ := open_int Try.underlying3 (hval 2 3 v2 rfl rfl) h2
  clear hA0 hval0
  refine (walk W a0 len0 cap0 z0 w0 a1 w1 a2 w2).mono fun e W' ⟨he, bel⟩ => ?_
  subst he
  exact ⟨_, rfl, _, _, _, [], _, [], hW', trodAll_mk1 (shut_bool Try.underlying4 _), (trodAll_cons_mk (Below.trod laidOut (by kernel_rfl) (of_decide_eq_true (by kernel_rfl)) k0 bel lt0) (trodAll_cons_mk (shut_int Try.underlying3 w1) (trodAll_cons_mk (shut_int Try.underlying3 w2) trodAll_mk0))), rfl, bel.frame _, fun h => by cases h⟩

theorem over : Rows.streamOctetsRow.holds Try.pinned (OpenSpec.ofChange Rows.streamOctetsSpec) :=
  OpenClaim.holds_of_wide 8 Try.f8 rfl rfl rfl rfl rfl rfl rfl ⟨rfl, rfl, rfl, rfl, rfl⟩ rfl rfl rfl rfl rfl (by kernel_rfl) Try.func8 (by kernel_rfl)
    (of_decide_eq_true (by kernel_rfl)) (by unfold Func.isWrapper; first | (rw [if_pos (by decide +kernel)]; kernel_rfl) | (rw [if_neg (by decide +kernel)]; exact ⟨rfl, rfl⟩))
    (fun os started H enc _ => lifted os started H enc)

theorem proved : Rows.StreamOctetsSaid := over
end Go.Proofs.Ytekoilcjghclcaa.streamOctets
