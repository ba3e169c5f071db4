/-
  Proved: the statement TokenNumbers (each number but the least is scanned out of its digits; a nought ahead of them makes it none), as a tied card: for every input; the listed variables of the library and of the package (tables, two errors) are as the program's text lays them; it speaks of the pruned copy of the project (its packages that the laws load).
-/
import Derived.Test.YthcodmcfkmochaaDoorRows
import Derived.Test.YthcodmcfkmochaaDoorCards
import Derived.Test.YthcodmcfkmochaaDoorTie
import Derived.Test.YthcodmcfkmochaaDoorTkD
import Derived.ProofKit
import Derived.OpenShut
import Derived.ShutString
import Derived.ChangeOld
import Derived.LaidMore
import Derived.SevenTiedAt
namespace Go.Proofs.YthcodmcfkmochaaDoor.tokenNumbers
open Go.ChangeShapes Go.WideShapes Go.ChangeAt Go.RowKit
open Go.ChangeMaps (open_string shut_string)
set_option linter.unusedVariables false
set_option linter.unusedSimpArgs false
set_option maxRecDepth 100000

theorem dig_of {n : Int} (h : n.natAbs < 9223372036854775808) (h0 : n ≠ 0) : Dig (dig 19 n.natAbs) n.natAbs ∧ dig 19 n.natAbs ≠ [48] := by
  have h10 : n.natAbs < 10 ^ 19 := Nat.lt_trans h (by decide)
  have hd := dig_head 19 n.natAbs h10 (by omega)
  refine ⟨⟨dig_all _ _, dig_val _ _ h10, dig_len _ _, .inr hd⟩, ?_⟩
  obtain ⟨c, r, e, hc⟩ := hd
  rw [e]
  intro e2
  injection e2 with e3
  exact hc e3
theorem dig_nought : Dig [48] 0 := ⟨fun c hc => by obtain rfl := List.mem_singleton.1 hc; exact ⟨by decide, by decide⟩, rfl, by decide, .inl rfl⟩
theorem num_one (n : Int) (h : n.natAbs < 9223372036854775808) : scF (bstr (dtx n)) = ⟨[⟨2, ⟨#[]⟩, n, 0⟩], (dtx n).length, 0⟩ := by
  unfold dtx
  by_cases h1 : n < 0
  · rw [if_pos h1]
    obtain ⟨h2, h3⟩ := dig_of h (by omega)
    rw [scan_neg h2 h h3, show -(n.natAbs : Int) = n by omega]
    rfl
  · rw [if_neg h1]
    by_cases h2 : n = 0
    · subst h2
      rw [if_pos rfl, scan_dig dig_nought (by decide)]
      rfl
    · rw [if_neg h2, scan_dig (dig_of h h2).1 h, show (n.natAbs : Int) = n by omega]
theorem num_two (n : Int) (h : n.natAbs < 9223372036854775808) (h0 : 0 ≤ n) : scF (bstr (120 :: 32 :: 48 :: dtx n)) = ⟨[], 2, 6⟩ := by
  unfold dtx
  rw [if_neg (by omega)]
  by_cases h2 : n = 0
  · rw [if_pos h2]
    exact scan_bad dig_nought
  · rw [if_neg h2]
    exact scan_bad (dig_of h h2).1
theorem dtx_len (n : Int) : (dtx n).length ≤ 20 := by
  unfold dtx
  have := dig_len 19 n.natAbs
  split
  · rw [List.length_cons]; omega
  · split
    · decide
    · omega
set_option maxHeartbeats 4000000 in
theorem walk (w : World) (hgl : Gl w) (n : Int) (wn : (Lit.int .i64 n).wf = true) :
    Calls Tryd.prog 5 #[.int .i64 n] w fun e w' => e = .returned (.bool true) ∧ Below w.heap.size w w' := by
  have HA := Lib.hid (awake_ok w hgl)
  have hn : -9223372036854775808 ≤ n ∧ n ≤ 9223372036854775807 := by
    simp [Lit.wf, IntKind.min, IntKind.max, IntKind.signed, IntKind.bits] at wn
    omega
  by_cases h : n = -9223372036854775808
  · have q1 : decide (n = -9223372036854775808) = true := decide_eq_true h
    have q1b : (n == -9223372036854775808) = true := by rw [h]; rfl
    clear hgl wn hn
    subst h
    go_enter Tryd.func5, Tryd.ntmps5
    go_wp2_with fail
    refine HA.out.mono ?_
    rintro e w1 ⟨rfl, hb⟩
    have HB := Lib.hid hb
    clear hb
    go_wp2_with fail
    go_ret
    exact ⟨rfl, HB.out⟩
  · have q1 : decide (n = -9223372036854775808) = false := decide_eq_false h
    have q1b : (n == -9223372036854775808) = false := by simp; exact h
    have habs : n.natAbs < 9223372036854775808 := by omega
    have HD1 := Lib.hid (digits_ok n habs)
    have hsz1 : (bstr (dtx n)).size ≤ 20 := by rw [bstr_size]; exact dtx_len n
    have hs1 := fun (w : World) (v : Value) (hv : Sl w v (cods (bstr (dtx n)))) (hg : Gl w) => scan_str (bstr (dtx n)) (by omega) w v hv hg
    rw [num_one n habs] at hs1
    have HS1 := Lib.hid hs1
    obtain ⟨m, hm⟩ : ∃ m : Int, max n 0 = m := ⟨_, rfl⟩
    have hm0 : 0 ≤ m ∧ m.natAbs < 9223372036854775808 := by omega
    have HD2 := Lib.hid (digits_ok m hm0.2)
    have hsz2 : (bstr (dtx m)).size ≤ 20 := by rw [bstr_size]; exact dtx_len m
    have hcat : (⟨#[120, 32, 48]⟩ : ByteArray) ++ bstr (dtx m) = bstr (120 :: 32 :: 48 :: dtx m) := bstr_cat [120, 32, 48] (dtx m)
    have hs2 := fun (w : World) (v : Value) (hv : Sl w v (cods (bstr (120 :: 32 :: 48 :: dtx m)))) (hg : Gl w) => scan_str (bstr (120 :: 32 :: 48 :: dtx m)) (by rw [bstr_size] at hsz2 ⊢; simp only [List.length_cons]; omega) w v hv hg
    rw [num_two m hm0.2 hm0.1] at hs2
    have HS2 := Lib.hid hs2
    have HCV := Lib.hid (fun w => conv_str w (bstr (dtx n)))
    have HCV2 := Lib.hid (fun w => conv_str w (bstr (120 :: 32 :: 48 :: dtx m)))
    generalize bstr (120 :: 32 :: 48 :: dtx m) = S2 at *
    generalize bstr (dtx m) = T2 at *
    generalize bstr (dtx n) = S1 at *
    have s2 : (⟨#[120, 32, 48]⟩ : ByteArray).size = 3 := rfl
    have q10 : ¬ (9223372036854775807 < (⟨#[120, 32, 48]⟩ : ByteArray).size + T2.size) := by omega
    have HGL := Lib.hid hgl
    clear hgl hs1 hs2 habs hm0 wn
    go_enter Tryd.func5, Tryd.ntmps5
    go_wp2_with fail
    refine HA.out.mono ?_
    rintro e w1 ⟨rfl, hb⟩
    have HG1 := Lib.hid (HGL.out.below hb)
    have HB1 := Lib.hid hb
    clear hb HGL HA
    go_wp2_with fail
    refine (HD1.out _).mono ?_
    rintro e w2 ⟨rfl, hb⟩
    have HG2 := Lib.hid (HG1.out.below hb)
    have HB2 := Lib.hid (HB1.out.trans (hb.mono HB1.out.size))
    clear hb HG1 HB1 HD1
    obtain ⟨v, w3, hcv, hsl, hb⟩ := HCV.out w2
    have HSL := Lib.hid hsl
    have HG3 := Lib.hid (HG2.out.below hb)
    have HB3 := Lib.hid (HB2.out.trans (hb.mono HB2.out.size))
    clear hsl hb HG2 HB2 HCV
    go_wp2_with fail
    refine (HS1.out _ _ HSL.out HG3.out).mono ?_
    rintro e w4 ⟨tv, rfl, ho, hb⟩
    have HG4 := Lib.hid (HG3.out.below hb)
    have HB4 := Lib.hid (HB3.out.trans (hb.mono HB3.out.size))
    rcases ho.shape with ⟨_, he⟩ | ⟨g, cap, rfl, hg, hcap, hc⟩
    · cases he
    have c0 : w4.cell? ⟨g, 0, none⟩ = some (.int .i64 2) := hc 0 (by simp [tcells])
    have c2 : w4.cell? ⟨g, 2, none⟩ = some (.int .i64 n) := hc 2 (by simp [tcells])
    have hgw : g < w4.heap.size := World.block_lt_of_cell? w4 _ c0
    have HC := Lib.hid (show ∀ w', Below w4.heap.size w4 w' → w'.cell? ⟨g, 0, none⟩ = some (.int .i64 2) ∧ w'.cell? ⟨g, 2, none⟩ = some (.int .i64 n) from fun w' h => by
      have e := h.block g hgw
      exact ⟨(World.cell?_of_block (w := w4) (a := ⟨g, 0, none⟩) e).trans c0, (World.cell?_of_block (w := w4) (a := ⟨g, 2, none⟩) e).trans c2⟩)
    have hl1 : [(⟨2, ⟨#[]⟩, n, 0⟩ : Tk)].length = 1 := rfl
    rw [hl1] at hcap ⊢
    clear hb ho hg hc c0 c2 hgw hl1 hcv HSL HG3 HB3 HS1
    go_wp2_with fail
    refine (HD2.out _).mono ?_
    rintro e w5 ⟨rfl, hb⟩
    have HG5 := Lib.hid (HG4.out.below hb)
    have HBB5 := Lib.hid hb
    clear hb HD2
    obtain ⟨v2, w6, hcv, hsl, hb⟩ := HCV2.out w5
    have HSL := Lib.hid hsl
    have HG6 := Lib.hid (HG5.out.below hb)
    have HBB6 := Lib.hid (HBB5.out.trans (hb.mono HBB5.out.size))
    clear hsl hb HG5 HBB5 HCV2 HG4
    go_wp2_with fail
    refine (HS2.out _ _ HSL.out HG6.out).mono ?_
    rintro e w7 ⟨tv2, rfl, _, hb⟩
    have HBB7 := Lib.hid (HBB6.out.trans (hb.mono HBB6.out.size))
    obtain ⟨c0, c2⟩ := HC.out w7 HBB7.out
    have HB7 := Lib.hid (HB4.out.trans (HBB7.out.mono HB4.out.size))
    clear hb HC hcv HSL HG6 HBB6 HBB7 HB4 HS2
    go_wp2_with fail
    go_ret
    exact ⟨rfl, HB7.out⟩

set_option maxRecDepth 100000 in
theorem lifted (os : Os) (started : os.Started) (H : Type) (enc : TypeId × Value → H) :
    ReturnsInHanded {} Tryd.checked os 5 .any (fun w args => (Rows.tokenNumbersSpec.pre enc Tryd.prog Tryd.f5 [] false w args ∧ laidMetH Tryd.prog Rows.tokenNumbersRow.laid w) ∧ sizedMet enc Tryd.prog Tryd.f5 (OpenSpec.ofChange Rows.tokenNumbersSpec) false w args) (Rows.tokenNumbersSpec.post enc Tryd.prog Tryd.f5 false true false false) := by
  refine handed_laid (C := Tryd.checked) (X := fun w _ => laidMetH Tryd.prog Rows.tokenNumbersRow.laid w) (fun _ _ _ hh h => h.of_heap hh) own started (by kernel_rfl) Tryd.func5
    (ChangeSpec.witness_shaped (enc := enc) (C := Tryd.checked) (os := os) (X := fun w _ => laidMetH Tryd.prog Rows.tokenNumbersRow.laid w) false (World.laidAll Tryd.prog os laidL) #[.int .i64 0] 8 (World.laidAll_os _ _ _)
      (World.shaped_of_ZipB (by kernel_rfl) (by kernel_rfl)) (by kernel_rfl) (by kernel_rfl) (by kernel_rfl) (laid_world os _)) ?_
  intro W base args ds gs before hval0 hW hL hsh
  have hval : ∀ (j : Nat) t v, Tryd.f5.params[j]? = some t → args[j]? = some v → Value.okWide Tryd.prog W .any base t v := hval0
  have hgl : Gl W := gl_of hL hsh
  have hW' := hW
  obtain ⟨p, q, hA0, hV, rfl, hfz, hnd⟩ := hW
  have hA : DataW.TrodAll enc Tryd.prog W 0 (fun _ => true) true Tryd.f5.params.toList args.toList ds p := hA0
  rw [Tryd.params5] at hA hval
  obtain ⟨v0, vs0, d0, ds0, p0, q0, hargs, rfl, rfl, h0, r0⟩ := trodAll_cons hA
  obtain ⟨rfl, rfl, rfl⟩ := trodAll_nil r0
  obtain rfl : args = #[v0] := by cases args; simp_all
  obtain ⟨rfl, rfl⟩ := trodVars_none hV
  obtain ⟨a0, rfl, rfl, rfl, w0⟩ := open_int Tryd.underlying3 (hval 0 3 v0 rfl rfl) h0
  clear hA0 hval0
  refine (walk W hgl a0 w0).mono fun e W' ⟨he, bel⟩ => ?_
  subst he
  exact ⟨_, rfl, _, _, _, [], _, [], hW', trodAll_mk1 (shut_bool Tryd.underlying4 _), (trodAll_cons_mk (shut_int Tryd.underlying3 w0) trodAll_mk0), rfl, bel.frame _, fun h => by cases h⟩

theorem over : Rows.tokenNumbersRow.holds Tryd.pinned (OpenSpec.ofChange Rows.tokenNumbersSpec) :=
  OpenClaim.holds_of_wide 5 Tryd.f5 rfl rfl rfl rfl rfl rfl rfl ⟨rfl, rfl, rfl, rfl, rfl⟩ rfl rfl rfl rfl rfl (by kernel_rfl) Tryd.func5 (by kernel_rfl)
    (of_decide_eq_true (by kernel_rfl)) (by unfold Func.isWrapper; first | (rw [if_pos (by decide +kernel)]; kernel_rfl) | (rw [if_neg (by decide +kernel)]; exact ⟨rfl, rfl⟩))
    (fun os started H enc _ => lifted os started H enc)

theorem proved : Rows.TokenNumbersCardSaid :=
  Claim7.holds_tied_plain_at .later [] [.data, .data, .data, .data, .sentinel, .sentinel, .data, .pinned] true (true, "551622fd71e3a7f9b30e05f43adcc85f11ae93f6d336fba504faff55d8d2c863") true
    over (fun _ h => by cases h) (by kernel_rfl) (fun _ h => by cases h) tokenNumbers_row_tie rfl ⟨rfl, rfl⟩ (by kernel_rfl) rfl
    (fun f fn hf hfn => by
      obtain rfl : f = 5 := Option.some.inj ((show Tryd.prog.funcNamed Rows.tokenNumbersRow.func = some 5 by kernel_rfl).symm.trans hf) |>.symm
      obtain rfl : fn = Tryd.f5 := (Option.some.inj (Tryd.func5.symm.trans hfn)).symm
      exact ⟨by kernel_rfl, fun j t ht => by
        rw [Tryd.params5] at ht
        have hm : t ∈ [3] := by simpa using Array.mem_of_getElem? ht
        have hall : ([3].all fun u => !Tryd.prog.wantsStandIn u) = true := by kernel_rfl
        exact (show Tryd.prog.wantsStandIn t = false by simpa using List.all_eq_true.1 hall t hm)⟩)
    (by kernel_rfl)
end Go.Proofs.YthcodmcfkmochaaDoor.tokenNumbers
