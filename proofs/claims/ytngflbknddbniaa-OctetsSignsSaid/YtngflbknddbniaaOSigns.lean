/-
  Proved: the statement OctetsSigns (a number of 0 or more with a sign is it without one, behind an octet 0 where that begins with a bit 1; the first bit tells the sign), for every input; no further condition.
-/
import Derived.Test.YtngflbknddbniaaRows
import Derived.Test.YtngflbknddbniaaOLaw
import Derived.ProofKit
import Derived.OpenShut
import Derived.ShutString
import Derived.ChangeOld
namespace Go.Proofs.Ytngflbknddbniaa.octetsSigns
open Go.ChangeShapes Go.WideShapes Go.ChangeAt Go.RowKit
open Go.ChangeMaps (open_string shut_string)
set_option linter.unusedVariables false
set_option linter.unusedSimpArgs false

theorem own : ownKnob Try.prog.godebug = none := by kernel_rfl
theorem laidOut : laidOutB Try.prog = true := by kernel_rfl

theorem first_lt (v : Nat) (hv : v < 2 ^ 64) (hf : ¬ 128 ≤ (low v (cnt v)).getD 0 0) : v < 2 ^ (8 * cnt v - 1) ∧ (cnt v = 1 ∨ 2 ^ (8 * (cnt v - 1)) ≤ v) := by
  have c1 := cnt_pos v
  have h3 := cnt_lt v hv
  have h4 := cnt_ge v hv
  rw [low_getD _ _ _ (by omega)] at hf
  generalize cnt v = c at *
  obtain ⟨m, rfl⟩ : ∃ m, c = m + 1 := ⟨c - 1, by omega⟩
  simp only [Nat.add_sub_cancel, Nat.sub_zero] at *
  rw [show 8 * (m + 1) = 8 * m + 8 by omega, pow8] at h3
  rw [show 8 * (m + 1) - 1 = 8 * m + 7 by omega, show 2 ^ (8 * m + 7) = 128 * 2 ^ (8 * m) by rw [Nat.pow_add, Nat.mul_comm]]
  have hp : 0 < 2 ^ (8 * m) := Nat.pow_pos (by decide)
  have h5 : v / 2 ^ (8 * m) < 256 := (Nat.div_lt_iff_lt_mul hp).2 (by omega)
  refine ⟨(Nat.div_lt_iff_lt_mul hp).1 (by omega), ?_⟩
  by_cases h0 : m + 1 = 1
  · exact .inl h0
  · exact .inr (h4 h0)
theorem first_ge (v : Nat) (hv : v < 2 ^ 64) (hf : 128 ≤ (low v (cnt v)).getD 0 0) : 2 ^ (8 * cnt v - 1) ≤ v := by
  have c1 := cnt_pos v
  rw [low_getD _ _ _ (by omega)] at hf
  generalize cnt v = c at *
  obtain ⟨m, rfl⟩ : ∃ m, c = m + 1 := ⟨c - 1, by omega⟩
  simp only [Nat.add_sub_cancel, Nat.sub_zero] at *
  rw [show 8 * (m + 1) - 1 = 8 * m + 7 by omega, show 2 ^ (8 * m + 7) = 128 * 2 ^ (8 * m) by rw [Nat.pow_add, Nat.mul_comm]]
  have hp : 0 < 2 ^ (8 * m) := Nat.pow_pos (by decide)
  exact (Nat.le_div_iff_mul_le hp).1 (Nat.le_trans hf (Nat.mod_le _ _))
theorem signs_pos (v : Nat) (h : mag v < 2 ^ 63) : low (u64n v) (scnt v) = if 128 ≤ (low v (cnt v)).getD 0 0 then 0 :: low v (cnt v) else low v (cnt v) := by
  have hm : mag v = v := by have := mag_pos (v : Int) (by omega); omega
  have hv : v < 2 ^ 64 := by omega
  have hu : u64n v = v := by unfold u64n; omega
  have c1 := cnt_pos v
  have h3 := cnt_lt v hv
  rw [hu]
  split
  · rename_i hf
    have h5 := first_ge v hv hf
    have hs : scnt v = cnt v + 1 := by
      refine scnt_uniq _ _ h (by omega) ?_ (.inr ?_)
      · have : 2 ^ (8 * cnt v) ≤ 2 ^ (8 * (cnt v + 1) - 1) := pow_le (by omega)
        rw [hm]
        omega
      · rw [hm, Nat.add_sub_cancel]
        exact h5
    rw [hs]
    exact low_head v (cnt v) h3
  · rename_i hf
    obtain ⟨h5, h6⟩ := first_lt v hv hf
    have hs : scnt v = cnt v := by
      refine scnt_uniq _ _ h c1 (by rw [hm]; exact h5) ?_
      rcases h6 with h6 | h6
      · exact .inl h6
      · right
        have : 2 ^ (8 * (cnt v - 1) - 1) ≤ 2 ^ (8 * (cnt v - 1)) := pow_le (by omega)
        rw [hm]
        omega
    rw [hs]
theorem sign_first (n : Int) (h : mag n < 2 ^ 63) : 128 ≤ (low (u64n n) (scnt n)).getD 0 0 ↔ n < 0 := by
  have g := (snum_low n h).1
  have h1 := scnt_pos n
  have hs := unum_sign n (scnt n) h1 (scnt_le n h) (scnt_lt n h)
  unfold snum at g
  rw [low_length] at g
  have hlt := unum_lt _ (low_mem (u64n n) (scnt n))
  rw [low_length] at hlt
  have e5 : ((2 : Int) ^ (8 * scnt n)) = ((2 ^ (8 * scnt n) : Nat) : Int) := by rw [Int.natCast_pow]; rfl
  rw [e5] at g
  split at g
  · rename_i hf
    exact ⟨fun _ => by omega, fun _ => hf⟩
  · rename_i hf
    exact ⟨fun h => absurd h hf, fun hn => by omega⟩
theorem own_one (w : World) : (w.alloc (.cells #[.int .u8 0] 5)).ownsRow w.heap.size 5 1 (.slice (some ⟨w.heap.size, 0, none⟩) 1 1) 1 (u8s [0]) :=
  ⟨rfl, .inr ⟨w.heap.size, 1, _, rfl, Nat.le_refl _, heap_alloc_new w _, Nat.le_refl _, by unfold maxLen; omega, rfl, rfl⟩⟩
set_option maxHeartbeats 2000000 in
theorem walk_neg (w : World) (n : Int) (hm : mag n < 2 ^ 63) (hn : n < 0) :
    Calls Try.prog 14 #[.int .i64 n] w fun e w' => e = .returned (.bool true) ∧ Below w.heap.size w w' := by
  have hf := (sign_first n hm).2 hn
  have hc1 := scnt_pos n
  have hc8 := scnt_le n hm
  have CS := fun w => Lib.hid (signed_ok n w hm)
  generalize scnt n = c at *
  generalize u64n n = u at *
  clear hm
  go_enter Try.func14, Try.ntmps14
  go_wp2_with fail
  refine (oawake _).mono ?_
  rintro e w1 ⟨rfl, hb⟩
  have HB1 := Lib.hid hb
  clear hb
  go_wp2_with fail
  refine (CS w1).out.mono ?_
  rintro e w2 ⟨s, rfl, ⟨g, cap, rfl, _, _, hd⟩, hb⟩
  have HB2 := Lib.hid (HB1.out.trans (hb.mono HB1.out.size))
  have hc0 := hd.cell 0 (by rw [low_length]; omega)
  rw [low_length]
  clear hb HB1 CS hd
  generalize (low u c).getD 0 0 = f at *
  have hq0 : ((c : Int) == 0) = false := by rw [beq_eq_false_iff_ne]; omega
  have hq1 : decide ((128 : Int) ≤ f) = true := decide_eq_true (by omega)
  have hq2 : decide (n < 0) = true := decide_eq_true hn
  have hq3 : decide ((c : Int) ≤ 8) = true := decide_eq_true (by omega)
  go_wp2_with fail
  go_ret
  exact ⟨rfl, HB2.out⟩
set_option maxHeartbeats 2000000 in
theorem walk_pos (w : World) (v : Nat) (hm : mag v < 2 ^ 63) :
    Calls Try.prog 14 #[.int .i64 v] w fun e w' => e = .returned (.bool true) ∧ Below w.heap.size w w' := by
  obtain ⟨i0, hi, hz0, hz1, hz2⟩ := info_parts info_u8
  have hmv : mag v = v := by have := mag_pos (v : Int) (by omega); omega
  have hv : v < 2 ^ 64 := by omega
  have hf : ¬ 128 ≤ (low (u64n v) (scnt v)).getD 0 0 := fun h => by have := (sign_first v hm).1 h; omega
  have hc1 := scnt_pos v
  have hc8 := scnt_le v hm
  have hd1 := cnt_pos v
  have hd8 := cnt_le v hv
  have HSG := Lib.hid (signs_pos v hm)
  have CS := fun w => Lib.hid (signed_ok v w hm)
  have CU := fun w => Lib.hid (unsigned_ok v w hv)
  generalize scnt v = c at *
  generalize u64n v = u at *
  generalize cnt v = d at *
  have hv63 : v < 9223372036854775808 := by omega
  clear hm hmv hv
  go_enter Try.func14, Try.ntmps14
  go_wp2_with fail
  refine (oawake _).mono ?_
  rintro e w1 ⟨rfl, hb⟩
  have HB1 := Lib.hid hb
  clear hb
  go_wp2_with fail
  refine (CS w1).out.mono ?_
  rintro e w2 ⟨s, rfl, ⟨g, cap, rfl, _, _, hd⟩, hb⟩
  have HB2 := Lib.hid (HB1.out.trans (hb.mono HB1.out.size))
  have HD := Lib.hid hd
  have hc0 := hd.cell 0 (by rw [low_length]; omega)
  rw [low_length]
  clear hb HB1 CS hd
  generalize hfx : (low u c).getD 0 0 = f at *
  clear hfx
  have hq0 : ((c : Int) == 0) = false := by rw [beq_eq_false_iff_ne]; omega
  have hq1 : decide ((128 : Int) ≤ f) = false := decide_eq_false (by omega)
  have hq2 : decide ((v : Int) < 0) = false := decide_eq_false (by omega)
  have hq3 : ((d : Int) == 0) = false := by rw [beq_eq_false_iff_ne]; omega
  go_wp2_with fail
  refine (CU w2).out.mono ?_
  rintro e w3 ⟨s, rfl, ⟨g2, cap2, rfl, _, _, hd2⟩, hb⟩
  have HB3 := Lib.hid (HB2.out.trans (hb.mono HB2.out.size))
  have HD3 := Lib.hid (HD.out.below hb)
  have HE := Lib.hid hd2
  have he0 := hd2.cell 0 (by rw [low_length]; omega)
  have hsz := HB3.out.size
  rw [low_length]
  clear hb HB2 CU hd2 HD hc0
  have HSL3 := Lib.hid (show SlAt w3 (.slice (some ⟨g, 0, none⟩) c cap) (low u c) from .inl ⟨g, 0, cap, by rw [low_length], HD3.out⟩)
  by_cases h128 : 128 ≤ (low v d).getD 0 0
  · have HEQ := Lib.hid (HSG.out.trans (if_pos h128))
    generalize hx : (low v d).getD 0 0 = x at *
    clear HSG hx
    have hq4 : decide ((128 : Int) ≤ x) = true := decide_eq_true (by omega)
    go_wp2_with (at_builtin; refine wpList_append_own _ rfl (.tmp 39) (.tmp 40) 30 rfl w3.heap.size 5 i0 (.int .u8 0) 1 1 Try.underlying30 hi hz0 hz1 hz2 rfl (by decide) _ 1 (u8s [0]) rfl (own_one w3) ⟨g2, 0, none⟩ d cap2 (u8s (low v d)) rfl (by simp [u8s, low_length]) (data_cells (HE.out.below ((Below.refl _ _).alloc (Nat.le_refl _) _))) (u8s_one _) (by unfold maxLen; omega) (by omega) (by simp) ?_; intro v' w4 hown4 hgr4 _)
    have hown5 : w4.ownsRow w3.heap.size 5 1 v' (0 :: low v d).length (u8s (0 :: low v d)) := by
      have e : (0 :: low v d).length = 1 + d := by rw [List.length_cons, low_length]; omega
      rw [e]
      exact hown4
    have hn5 := new_of_own hown5 (by simp) (getD_lt (cons_lt (by decide) (low_mem _ _)))
    have hb4 : Below w3.heap.size w3 w4 := ((Below.refl _ w3).alloc (Nat.le_refl _) _).grown hgr4 (by simp) (fun k hk => (own_one w3).lt k hk |>.1)
    have HN5 := Lib.hid hn5.sl
    have HSL5 := Lib.hid (HSL3.out.below hb4)
    have HB5 := Lib.hid (HB3.out.trans (hb4.mono hsz))
    rw [HEQ.out] at HSL5
    clear hown4 hown5 hgr4 hn5 hb4 HB3 HSL3 HE HD3 he0
    go_wp2_with fail
    refine (osame_yes w4 _ _ _ HSL5.out HN5.out).mono ?_
    rintro e w5 ⟨rfl, rfl⟩
    go_wp2_with fail
    go_ret
    exact ⟨rfl, HB5.out⟩
  · have HEQ := Lib.hid (HSG.out.trans (if_neg h128))
    have HN3 := Lib.hid (show SlAt w3 (.slice (some ⟨g2, 0, none⟩) d cap2) (low v d) from .inl ⟨g2, 0, cap2, by rw [low_length], HE.out⟩)
    generalize hx : (low v d).getD 0 0 = x at *
    rw [HEQ.out] at HSL3
    clear HSG hx HE HD3
    have hq4 : decide ((128 : Int) ≤ x) = false := decide_eq_false (by omega)
    go_wp2_with fail
    refine (osame_yes w3 _ _ _ HSL3.out HN3.out).mono ?_
    rintro e w5 ⟨rfl, rfl⟩
    go_wp2_with fail
    go_ret
    exact ⟨rfl, HB3.out⟩
theorem walk (w : World) (n : Int) (w0 : (Lit.int .i64 n).wf = true) :
    Calls Try.prog 14 #[.int .i64 n] w fun e w' => e = .returned (.bool true) ∧ Below w.heap.size w w' := by
  have b := i64_bounds w0
  have hm := mag_lt n b.1 b.2
  by_cases h : n < 0
  · exact walk_neg w n hm h
  · obtain ⟨v, rfl⟩ : ∃ v : Nat, n = v := ⟨n.toNat, by omega⟩
    exact walk_pos w v hm

set_option maxRecDepth 100000 in
theorem lifted (os : Os) (started : os.Started) (H : Type) (enc : TypeId × Value → H) :
    ReturnsInHanded {} Try.checked os 14 .any (Rows.octetsSignsSpec.pre6 enc Try.prog Try.f14 Rows.octetsSignsRow.domain false) (Rows.octetsSignsSpec.post enc Try.prog Try.f14 false true false false) := by
  refine returnsInHanded_of_change (C := Try.checked) own started (by kernel_rfl) Try.func14
    (ChangeSpec.witness6 (enc := enc) (C := Try.checked) false ⟨#[], #[.int .i64 0], []⟩ 8 (by kernel_rfl) (by kernel_rfl) (by kernel_rfl) (by kernel_rfl)) ?_
  intro W base args ds gs before hval0 hW hcnd _
  have hval : ∀ (j : Nat) t v, Try.f14.params[j]? = some t → args[j]? = some v → Value.okWide Try.prog W .any base t v := hval0
  have hW' := hW
  obtain ⟨p, q, hA0, hV, rfl, hfz, hnd⟩ := hW
  have hA : DataW.TrodAll enc Try.prog W 0 (fun _ => true) true Try.f14.params.toList args.toList ds p := hA0
  rw [Try.params14] at hA hval
  obtain ⟨v0, vs0, d0, ds0, p0, q0, hargs, rfl, rfl, h0, r0⟩ := trodAll_cons hA
  obtain ⟨rfl, rfl, rfl⟩ := trodAll_nil r0
  obtain rfl : args = #[v0] := by cases args; simp_all
  obtain ⟨rfl, rfl⟩ := trodVars_none hV
  obtain ⟨a0, rfl, rfl, rfl, w0⟩ := open_int Try.underlying3 (hval 0 3 v0 rfl rfl) h0
  clear hA0 hval0
  refine (walk W a0 w0).mono fun e W' ⟨he, bel⟩ => ?_
  subst he
  exact ⟨_, rfl, _, _, _, [], _, [], hW', trodAll_mk1 (shut_bool Try.underlying4 _), (trodAll_cons_mk (shut_int Try.underlying3 w0) trodAll_mk0), rfl, bel.frame _, fun h => by cases h⟩

theorem over : Rows.octetsSignsRow.holds Try.pinned (OpenSpec.ofChange Rows.octetsSignsSpec) :=
  OpenClaim.holds_of_wide 14 Try.f14 rfl rfl rfl rfl rfl rfl rfl ⟨rfl, rfl, rfl, rfl, rfl⟩ rfl rfl rfl rfl rfl (by kernel_rfl) Try.func14 (by kernel_rfl)
    (of_decide_eq_true (by kernel_rfl)) (by unfold Func.isWrapper; first | (rw [if_pos (by decide +kernel)]; kernel_rfl) | (rw [if_neg (by decide +kernel)]; exact ⟨rfl, rfl⟩))
    (fun os started H enc _ => lifted os started H enc)

theorem proved : Rows.OctetsSignsSaid := over
end Go.Proofs.Ytngflbknddbniaa.octetsSigns
