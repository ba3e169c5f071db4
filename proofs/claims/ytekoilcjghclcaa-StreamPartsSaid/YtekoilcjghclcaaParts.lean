/-
  Proved: the statement StreamParts (a number written in two parts, the higher bits first, is the number written whole; octets are written as eight bits each), for every input; no further condition.
-/
import Derived.Test.YtekoilcjghclcaaRows
import Derived.Test.YtekoilcjghclcaaSame
import Derived.ProofKit
import Derived.OpenShut
import Derived.ShutString
import Derived.ChangeOld
namespace Go.Proofs.Ytekoilcjghclcaa.streamParts
open Go.ChangeShapes Go.WideShapes Go.ChangeAt Go.RowKit
open Go.ChangeMaps (open_string shut_string)
set_option linter.unusedVariables false
set_option linter.unusedSimpArgs false

theorem own : ownKnob Try.prog.godebug = none := by kernel_rfl
theorem laidOut : laidOutB Try.prog = true := by kernel_rfl

theorem mask_low (v k : Nat) (hv : v < 18446744073709551616) (hk : k ≤ 63) :
    bits BinOp.and IntKind.u64 (v : Int) (IntKind.u64.wrap (IntKind.u64.wrap (2 ^ k) - 1)) = ((v % 2 ^ k : Nat) : Int) := by
  have h1 : 2 ^ k ≤ 2 ^ 63 := Nat.pow_le_pow_right (by omega) hk
  have h2 : 1 ≤ 2 ^ k := Nat.one_le_two_pow
  have h3 : ((2 : Int) ^ k) = ((2 ^ k : Nat) : Int) := by rw [Int.natCast_pow]; rfl
  have h4 : (2 : Nat) ^ 63 = 9223372036854775808 := by decide
  have e : IntKind.u64.wrap (IntKind.u64.wrap (2 ^ k) - 1) = ((2 ^ k - 1 : Nat) : Int) := by
    rw [h3, IntKind.wrap_u64, IntKind.wrap_u64]
    generalize 2 ^ k = q at *
    omega
  rw [e, bits_and_u64_nat v (2 ^ k - 1) hv (by omega), Nat.and_two_pow_sub_one_eq_mod]
theorem and63 (a : Int) : bits BinOp.and .i64 a 63 = a % 64 := by
  have h63 : (BitVec.ofInt 64 63).toNat = 2 ^ 6 - 1 := by decide
  have key : (BitVec.ofInt 64 a &&& BitVec.ofInt 64 63).toNat = (a % ((2 ^ 64 : Nat) : Int)).toNat % 2 ^ 6 := by
    rw [BitVec.toNat_and, BitVec.toNat_ofInt, h63, Nat.and_two_pow_sub_one_eq_mod]
  show IntKind.i64.wrap ((BitVec.ofInt 64 a &&& BitVec.ofInt 64 63).toNat : Nat) = a % 64
  rw [key, IntKind.wrap_i64]
  omega
theorem wrap_and (a : Int) : ∃ n : Nat, n ≤ 63 ∧ bits BinOp.and .i64 a 63 = n :=
  ⟨(a % 64).toNat, by omega, by rw [and63]; omega⟩

set_option maxHeartbeats 2000000 in
set_option maxRecDepth 100000 in
theorem walk_big (w : World) (v : Nat) (a1 a2 : Int) (n m : Nat) (hn : n ≤ 63) (hm : m ≤ 63) (e1 : bits BinOp.and .i64 a1 63 = n) (e2 : bits BinOp.and .i64 a2 63 = m) (a3 : Option Addr) (len3 cap3 : Nat)
    (hout : 0 < (v : Int) / 2 ^ n) :
    Calls Try.prog 6 #[.int .u64 v, .int .i64 a1, .int .i64 a2, .slice a3 len3 cap3] w fun e w' => e = .returned (.bool true) ∧ Below w.heap.size w w' := by
  by_cases hmn : m ≤ n
  all_goals
    go_enter Try.func6, Try.ntmps6
    go_wp2_with (go_at_call 9; refine (awake_any _).mono ?_; rintro e wa ⟨rfl, hba⟩; have HB := Lib.hid hba; clear hba)
    go_ret
    exact ⟨rfl, HB.out⟩
set_option maxHeartbeats 2000000 in
set_option maxRecDepth 100000 in
theorem walk_long (w : World) (v : Nat) (a1 a2 : Int) (n m : Nat) (hn : n ≤ 63) (hm : m ≤ 63) (e1 : bits BinOp.and .i64 a1 63 = n) (e2 : bits BinOp.and .i64 a2 63 = m) (a3 : Option Addr) (len3 cap3 : Nat)
    (hin : (v : Int) / 2 ^ n ≤ 0) (hout : (100 : Int) < len3) :
    Calls Try.prog 6 #[.int .u64 v, .int .i64 a1, .int .i64 a2, .slice a3 len3 cap3] w fun e w' => e = .returned (.bool true) ∧ Below w.heap.size w w' := by
  by_cases hmn : m ≤ n
  all_goals
    go_enter Try.func6, Try.ntmps6
    go_wp2_with (go_at_call 9; refine (awake_any _).mono ?_; rintro e wa ⟨rfl, hba⟩; have HB := Lib.hid hba; clear hba)
    go_ret
    exact ⟨rfl, HB.out⟩
set_option maxHeartbeats 2000000 in
set_option maxRecDepth 100000 in
theorem walk_main (w : World) (v : Nat) (hv64 : v < 18446744073709551616) (a1 a2 : Int) (n m k : Nat) (hn : n ≤ 63) (hk : k ≤ n) (hkm : (if (n : Int) < (m : Int) then (n : Int) else (m : Int)) = k) (hkm' : (if n < m then (n : Int) else (m : Int)) = k) (e1 : bits BinOp.and .i64 a1 63 = n) (e2 : bits BinOp.and .i64 a2 63 = m) (a3 : Option Addr) (len3 cap3 : Nat) (l : List Nat)
    (hsl : SlAt w (.slice a3 len3 cap3) l) (hl : l.length = len3)
    (hin : (v : Int) / 2 ^ n ≤ 0) (hlen : (len3 : Int) ≤ 100) :
    Calls Try.prog 6 #[.int .u64 v, .int .i64 a1, .int .i64 a2, .slice a3 len3 cap3] w fun e w' => e = .returned (.bool true) ∧ Below w.heap.size w w' := by
  have hzv := zero_writer
  have HL := Lib.hid hl
  have HV := Lib.hid hv64
  clear hl hv64
  go_enter Try.func6, Try.ntmps6
  go_wp2_with (go_at_call 9; refine (awake_any _).mono ?_; rintro e wa ⟨rfl, hba⟩; have hsa := hba.size)
  have hv : v < 2 ^ n := by
    have h1 : (v : Int) / 2 ^ n = ((v / 2 ^ n : Nat) : Int) := by rw [Int.natCast_ediv, Int.natCast_pow]; rfl
    rw [h1] at hin
    have h2 : v / 2 ^ n = 0 := by
      generalize v / 2 ^ n = q at hin
      omega
    exact (Nat.div_eq_zero_iff_lt (Nat.two_pow_pos n)).1 h2
  have hx1 := wr_new wa
  have hx2 := hx1.below ((Below.refl _ _).alloc (Nat.le_refl _) (.cells newCells 28))
  have hy2 := wr_new (wa.alloc (.cells newCells 28))
  rw [World.size_alloc] at hy2
  have hb2 : Below w.heap.size w ((wa.alloc (.cells newCells 28)).alloc (.cells newCells 28)) := (hba.alloc hsa _).alloc (by simp; omega) _
  have HSL := Lib.hid hsl
  clear hba hzv hx1 hsl
  revert hx2 hy2 hb2
  generalize (wa.alloc (.cells newCells 28)).alloc (.cells newCells 28) = W2
  generalize wa.heap.size = x at *
  intro hx2 hy2 hb2
  refine (put_ok W2 x [] v n hx2 (by omega) hv (by simp)).mono ?_
  rintro e W3 ⟨rfl, hx3, ho3⟩
  have hy3 := hy2.keep_wr hx2 ho3 (by omega)
  have hb3 : Below w.heap.size w W3 := hb2.trans (ho3.below hsa hb2.size)
  rw [List.nil_append] at hx3
  have HX := Lib.hid hx3
  have HY := Lib.hid hy3
  have HB := Lib.hid hb3
  clear hx3 hy3 hb3 hx2 hy2 hb2 ho3
  go_wp2_with fail
  have e3 : (v : Int) / 2 ^ k = ((v / 2 ^ k : Nat) : Int) := by rw [Int.natCast_ediv, Int.natCast_pow]; rfl
  have e4 : (n : Int) - k = ((n - k : Nat) : Int) := by omega
  have hv3 : v / 2 ^ k < 2 ^ (n - k) := by
    rw [Nat.div_lt_iff_lt_mul (Nat.two_pow_pos k), ← Nat.pow_add, Nat.sub_add_cancel hk]; exact hv
  have c3 := put_ok W3 (x + 1) [] (v / 2 ^ k) (n - k) HY.out (by omega) hv3 (by simp)
  rw [← e3, ← e4] at c3
  refine c3.mono ?_
  rintro e W4 ⟨rfl, hy4, ho4⟩
  have hx4 := HX.out.keep_wr HY.out ho4 (by omega)
  have hb4 : Below w.heap.size w W4 := HB.out.trans (ho4.below (by omega) HB.out.size)
  rw [List.nil_append] at hy4
  have HX4 := Lib.hid hx4
  have HY4 := Lib.hid hy4
  have HB4 := Lib.hid hb4
  clear hx4 hy4 hb4 HX HY HB ho4 c3 e3 e4 hv3
  go_wp2_with fail
  have c4 := put_ok W4 (x + 1) (nb (v / 2 ^ k) (n - k)) (v % 2 ^ k) k HY4.out (by omega) (Nat.mod_lt _ (Nat.two_pow_pos k)) (by rw [nb_length]; omega)
  rw [← mask_low v k HV.out (by omega)] at c4
  refine c4.mono ?_
  rintro e W5 ⟨rfl, hy5, ho5⟩
  have hx5 := HX4.out.keep_wr HY4.out ho5 (by omega)
  have hb5 : Below w.heap.size w W5 := HB4.out.trans (ho5.below (by omega) HB4.out.size)
  rw [nb_mod, ← Nat.shiftRight_eq_div_pow, ← nb_split v n k hk] at hy5
  have HX5 := Lib.hid hx5
  have HY5 := Lib.hid hy5
  have HB5 := Lib.hid hb5
  clear hx5 hy5 hb5 HX4 HY4 HB4 ho5 c4
  go_wp2_with fail
  have hsl5 := HSL.out.below HB5.out
  have hg5 : ∀ g o cap, Value.slice a3 len3 cap3 = .slice (some ⟨g, o, none⟩) l.length cap → l ≠ [] → g < w.heap.size := fun g o cap e hne => sl_lt HSL.out e hne
  refine (woctets_sl W5 x _ _ l HX5.out hsl5 (fun g o cap e hne => by have := hg5 g o cap e hne; omega) (by rw [nb_length]; omega) (by have := HL.out; omega)).mono ?_
  rintro e W6 ⟨rfl, hx6, ho6⟩
  have hy6 := HY5.out.keep_wr HX5.out ho6 (by omega)
  have hb6 : Below w.heap.size w W6 := HB5.out.trans (ho6.below hsa HB5.out.size)
  have HX6 := Lib.hid hx6
  have HY6 := Lib.hid hy6
  have HB6 := Lib.hid hb6
  have HG := Lib.hid hg5
  clear hx6 hy6 hb6 HX5 HY5 HB5 ho6 hsl5 hg5
  go_wp2_with fail
  go_loopw [17] (fun i wr => ∃ j : Nat, j ≤ l.length ∧ i = .int .i64 j ∧ WrAt wr x (nb v n ++ bitsOf l) ∧ WrAt wr (x + 1) (nb v n ++ bitsOf (l.take j)) ∧ Below w.heap.size w wr) (fun i _ => len3 - (intOf i).toNat)
  case atStart => exact ⟨0, Nat.zero_le _, rfl, HX6.out, by simpa [bitsOf] using HY6.out, HB6.out⟩
  case round =>
    obtain ⟨j, hj, rfl, hx, hy, hb⟩ := hrel
    have hll := HL.out
    by_cases hlt : j < len3
    · obtain ⟨g, o, ha3, hd⟩ := sl_ptr HSL.out hll (by omega)
      subst ha3
      have hc := (hd.below hb).cell j (by omega)
      have hb8 := hd.byte j
      obtain ⟨z, hz⟩ : ∃ z, l.getD j 0 = z := ⟨_, rfl⟩
      rw [hz] at hc hb8
      have HZ := Lib.hid hz
      have HX := Lib.hid hx
      have HY := Lib.hid hy
      have HB := Lib.hid hb
      clear hx hy hb hd hz hll
      go_wp2_with fail
      refine (put_ok wr (x + 1) _ z 8 HY.out (by omega) (by omega) (by rw [List.length_append, nb_length, bitsOf_length, List.length_take]; omega)).mono ?_
      rintro e w' ⟨rfl, hy', ho'⟩
      have hx' := HX.out.keep_wr HY.out ho' (by omega)
      have hb' : Below w.heap.size w w' := HB.out.trans (ho'.below (by omega) HB.out.size)
      rw [List.append_assoc, ← HZ.out, ← bitsOf_take_succ l j (by have := HL.out; omega)] at hy'
      have HX' := Lib.hid hx'
      have HY' := Lib.hid hy'
      have HB' := Lib.hid hb'
      clear hx' hy' hb' HX HY HB ho' hc hb8 HZ
      go_wp2_with fail
      go_roundw
      case rel => exact ⟨j + 1, by have := HL.out; omega, by go_num, HX'.out, HY'.out, HB'.out⟩
      case measure => simp [intOf]; omega
    · have hy2 : WrAt wr (x + 1) (nb v n ++ bitsOf l) := by rwa [List.take_of_length_le (by omega)] at hy
      have HX := Lib.hid hx
      have HY := Lib.hid hy2
      have HB := Lib.hid hb
      clear hx hy hb hy2 hll
      have hlen : (nb v n ++ bitsOf l).length ≤ 10000 := by rw [List.length_append, nb_length, bitsOf_length]; have := HL.out; omega
      go_wp2_with fail
      refine (len_ok wr x _ HX.out).mono ?_
      rintro e w' ⟨rfl, rfl⟩
      go_wp2_with fail
      refine (len_ok wr (x + 1) _ HY.out).mono ?_
      rintro e w' ⟨rfl, rfl⟩
      go_wp2_with fail
      refine (wbytes_any wr x _ HX.out (by omega)).mono ?_
      rintro e W7 ⟨rfl, hr7, hb7⟩
      have HY7 := Lib.hid (HY.out.below hb7)
      have HB7 := Lib.hid (HB.out.trans (hb7.mono HB.out.size))
      have HA7 := Lib.hid (sl_of_row hr7 (wb_lt _) rfl)
      clear hr7 hb7
      go_wp2_with fail
      refine (wbytes_any W7 (x + 1) _ HY7.out (by omega)).mono ?_
      rintro e W8 ⟨rfl, hr8, hb8⟩
      have HB8 := Lib.hid (HB7.out.trans (hb8.mono HB7.out.size))
      have HA8 := Lib.hid (sl_of_row hr8 (wb_lt _) rfl)
      have HA9 := Lib.hid (HA7.out.below hb8)
      clear hr8 hb8
      go_wp2_with fail
      refine (same_yes W8 _ _ (wb (nb v n ++ bitsOf l)) HA9.out HA8.out).mono ?_
      rintro e w' ⟨rfl, rfl⟩
      go_wp2_with fail
      go_ret
      exact ⟨rfl, HB8.out⟩

theorem walk (w : World) (a0 : Int) (w0 : (Lit.int .u64 a0).wf = true) (a1 : Int) (w1 : (Lit.int .i64 a1).wf = true) (a2 : Int) (w2 : (Lit.int .i64 a2).wf = true) (a3 : Option Addr) (len3 cap3 : Nat) (z3 : List Int) (w3 : IsRow .u8 w a3 len3 cap3 z3) :
    Calls Try.prog 6 #[.int .u64 a0, .int .i64 a1, .int .i64 a2, .slice a3 len3 cap3] w fun e w' => e = .returned (.bool true) ∧ Below w.heap.size w w' := by
  obtain ⟨n, hn, e1⟩ := wrap_and a1
  obtain ⟨m, hm, e2⟩ := wrap_and a2
  obtain ⟨l, hsl, hl⟩ := sl_of_isRow w3
  have hb : 0 ≤ a0 ∧ a0 < 18446744073709551616 := by
    simp [Lit.wf, IntKind.min, IntKind.max, IntKind.signed, IntKind.bits] at w0
    omega
  obtain ⟨v, rfl⟩ : ∃ v : Nat, a0 = v := ⟨a0.toNat, by omega⟩
  by_cases h1 : 0 < (v : Int) / 2 ^ n
  · exact walk_big w v a1 a2 n m hn hm e1 e2 a3 len3 cap3 h1
  · by_cases h2 : (100 : Int) < len3
    · exact walk_long w v a1 a2 n m hn hm e1 e2 a3 len3 cap3 (by omega) h2
    · by_cases h3 : n < m
      · exact walk_main w v (by omega) a1 a2 n m n hn (Nat.le_refl _) (by rw [if_pos (by omega)]) (by rw [if_pos h3]) e1 e2 a3 len3 cap3 l hsl hl (by omega) (by omega)
      · exact walk_main w v (by omega) a1 a2 n m m hn (by omega) (by rw [if_neg (by omega)]) (by rw [if_neg h3]) e1 e2 a3 len3 cap3 l hsl hl (by omega) (by omega)

set_option maxRecDepth 100000 in
theorem lifted (os : Os) (started : os.Started) (H : Type) (enc : TypeId × Value → H) :
    ReturnsInHanded {} Try.checked os 6 .any (Rows.streamPartsSpec.pre6 enc Try.prog Try.f6 Rows.streamPartsRow.domain false) (Rows.streamPartsSpec.post enc Try.prog Try.f6 false true false false) := by
  refine returnsInHanded_of_change (C := Try.checked) own started (by kernel_rfl) Try.func6
    (ChangeSpec.witness6 (enc := enc) (C := Try.checked) false ⟨#[], #[.int .u64 0, .int .i64 0, .int .i64 0, .slice none 0 0], []⟩ 8 (by kernel_rfl) (by kernel_rfl) (by kernel_rfl) (by kernel_rfl)) ?_
  intro W base args ds gs before hval0 hW hcnd _
  have hval : ∀ (j : Nat) t v, Try.f6.params[j]? = some t → args[j]? = some v → Value.okWide Try.prog W .any base t v := hval0
  have hW' := hW
  obtain ⟨p, q, hA0, hV, rfl, hfz, hnd⟩ := hW
  have hA : DataW.TrodAll enc Try.prog W 0 (fun _ => true) true Try.f6.params.toList args.toList ds p := hA0
  rw [Try.params6] at hA hval
  obtain ⟨v0, vs0, d0, ds0, p0, q0, hargs, rfl, rfl, h0, r0⟩ := trodAll_cons hA
  obtain ⟨v1, vs1, d1, ds1, p1, q1, rfl, rfl, rfl, h1, r1⟩ := trodAll_cons r0
  obtain ⟨v2, vs2, d2, ds2, p2, q2, rfl, rfl, rfl, h2, r2⟩ := trodAll_cons r1
  obtain ⟨v3, vs3, d3, ds3, p3, q3, rfl, rfl, rfl, h3, r3⟩ := trodAll_cons r2
  obtain ⟨rfl, rfl, rfl⟩ := trodAll_nil r3
  obtain rfl : args = #[v0, v1, v2, v3] := by cases args; simp_all
  obtain ⟨rfl, rfl⟩ := trodVars_none hV
  obtain ⟨a0, rfl, rfl, rfl, w0⟩ := open_int Try.underlying29 (hval 0 29 v0 rfl rfl) h0
  obtain ⟨a1, rfl, rfl, rfl, w1⟩ := open_int Try.underlying3 (hval 1 3 v1 rfl rfl) h1
  obtain ⟨a2, rfl, rfl, rfl, w2⟩ := open_int Try.underlying3 (hval 2 3 v2 rfl rfl) h2
  obtain ⟨a3, len3, cap3, rfl⟩ := okWide_slice Try.underlying30 (hval 3 30 v3 rfl rfl)
  have k3 := h3
  have lt3 : ∀ x ∈ p3, x.block < W.heap.size := by obtain ⟨m, hm⟩ := k3; exact DataW.trod_lt m _ _ _ hm
  obtain ⟨z3, w3⟩ : ∃ zs, IsRow .u8 W a3 len3 cap3 zs := by
    obtain ⟨fuel, hf⟩ := h3
    rcases open_ints Try.underlying30 Try.underlying5 (by kernel_rfl) hf with ⟨hcs, _⟩ | ⟨x, l, c, zs, hcs, _, hl, hm, hz, _, hcell, hwz⟩
    · simp [Value.cells] at hcs
      obtain ⟨rfl, rfl, rfl⟩ := hcs
      exact ⟨[], .inl ⟨rfl, rfl, rfl, rfl⟩⟩
    · simp [Value.cells] at hcs
      obtain ⟨rfl, rfl, rfl⟩ := hcs
      exact ⟨zs, .inr ⟨_, rfl, hl, hm, by simpa using hz, hcell, hwz⟩⟩
  clear hA0 hval0
  refine (walk W a0 w0 a1 w1 a2 w2 a3 len3 cap3 z3 w3).mono fun e W' ⟨he, bel⟩ => ?_
  subst he
  exact ⟨_, rfl, _, _, _, [], _, [], hW', trodAll_mk1 (shut_bool Try.underlying4 _), (trodAll_cons_mk (shut_int Try.underlying29 w0) (trodAll_cons_mk (shut_int Try.underlying3 w1) (trodAll_cons_mk (shut_int Try.underlying3 w2) (trodAll_cons_mk (Below.trod laidOut (by kernel_rfl) (of_decide_eq_true (by kernel_rfl)) k3 bel lt3) trodAll_mk0)))), rfl, bel.frame _, fun h => by cases h⟩

theorem over : Rows.streamPartsRow.holds Try.pinned (OpenSpec.ofChange Rows.streamPartsSpec) :=
  OpenClaim.holds_of_wide 6 Try.f6 rfl rfl rfl rfl rfl rfl rfl ⟨rfl, rfl, rfl, rfl, rfl⟩ rfl rfl rfl rfl rfl (by kernel_rfl) Try.func6 (by kernel_rfl)
    (of_decide_eq_true (by kernel_rfl)) (by unfold Func.isWrapper; first | (rw [if_pos (by decide +kernel)]; kernel_rfl) | (rw [if_neg (by decide +kernel)]; exact ⟨rfl, rfl⟩))
    (fun os started H enc _ => lifted os started H enc)

theorem proved : Rows.StreamPartsSaid := over
end Go.Proofs.Ytekoilcjghclcaa.streamParts
