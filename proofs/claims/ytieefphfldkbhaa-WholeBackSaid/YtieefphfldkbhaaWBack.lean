/-
  Proved: the statement WholeBack (what was put between any bounds is got between them, in as many bits, behind any bits; where there is one number alone nothing is written), for every input; no further condition.
-/
import Derived.Test.YtieefphfldkbhaaRows
import Derived.Test.YtieefphfldkbhaaWLaw
import Derived.ProofKit
import Derived.OpenShut
import Derived.ShutString
import Derived.ChangeOld
namespace Go.Proofs.Ytieefphfldkbhaa.wholeBack
open Go.ChangeShapes Go.WideShapes Go.ChangeAt Go.RowKit
open Go.ChangeMaps (open_string shut_string)
set_option linter.unusedVariables false
set_option linter.unusedSimpArgs false

theorem own : ownKnob Try.prog.godebug = none := by kernel_rfl
theorem laidOut : laidOutB Try.prog = true := by kernel_rfl

set_option maxHeartbeats 2000000 in
/-- where nothing was put -/
theorem walk_bad (w : World) (k : Int) (al : Bool) (n lo hi : Int) (b1 : -9223372036854775808 ≤ n ∧ n ≤ 9223372036854775807) (b2 : -9223372036854775808 ≤ lo ∧ lo ≤ 9223372036854775807) (b3 : -9223372036854775808 ≤ hi ∧ hi ≤ 9223372036854775807) (er : Int) (her : wErr n lo hi = er) (hne : er ≠ 0)
    (h4 : (er == 1 && decide (hi < lo) || er == 4 && (decide (n < lo) || decide (hi < n))) = true) :
    Calls Try.prog 5 #[.int .i64 k, .bool al, .int .i64 n, .int .i64 lo, .int .i64 hi] w fun e w' => e = .returned (.bool true) ∧ Below w.heap.size w w' := by
  obtain ⟨n1, n2⟩ := ne_facts hne
  have h5 : (er = 1 ∧ decide (hi < lo) = true) ∨ (er = 4 ∧ decide (n < lo) = true) ∨ (er = 4 ∧ decide (n < lo) = false ∧ decide (hi < n) = true) := by
    simp at h4
    rcases h4 with h | h
    · exact .inl ⟨h.1, decide_eq_true h.2⟩
    · rcases Classical.em (n < lo) with h6 | h6
      · exact .inr (.inl ⟨h.1, decide_eq_true h6⟩)
      · exact .inr (.inr ⟨h.1, decide_eq_false h6, decide_eq_true (by omega)⟩)
  have HWB := Lib.hid (fun B => wBits_bad (by rw [her]; exact hne) al B)
  clear h4
  rcases h5 with ⟨rfl, q1⟩ | ⟨rfl, q1⟩ | ⟨rfl, q1, q2⟩
  all_goals
    clear hne
    go_enter Try.func5, Try.ntmps5
    go_wp2_with fail
    refine (wawake _).mono ?_
    rintro e w1 ⟨rfl, hb⟩
    have HB := Lib.hid hb
    clear hb
    go_wp2_with fail
    refine (ahead_ok k w1).mono ?_
    rintro e w2 ⟨b, m, hm, hmk, rfl, hbw, hw, hb⟩
    have H1 := Lib.hid (HB.out.trans (hb.mono HB.out.size))
    have H2 := Lib.hid hw
    have hbw' : w.heap.size ≤ b := by have := HB.out.size; omega
    have hlen : (List.replicate m true).length ≤ 1000000 := by rw [List.length_replicate]; omega
    clear hb hw hbw HB hmk
    generalize List.replicate m true = B at *
    have HP := Lib.hid (wput_any w2 b B al n lo hi H2.out b1 b2 b3 (by omega))
    rw [her, HWB.out] at HP
    go_wp2_with fail
    refine (len_ok w2 b B H2.out).mono ?_
    rintro e w3 ⟨rfl, rfl⟩
    go_wp2_with fail
    refine HP.out.mono ?_
    rintro e w3 ⟨rfl, h1, h2⟩
    have H3 := Lib.hid h1
    have H4 := Lib.hid (H1.out.trans (h2.below hbw' H1.out.size))
    clear h1 h2 H1 H2 HP
    go_wp2_with fail
    refine (len_ok w3 b B H3.out).mono ?_
    rintro e w4 ⟨rfl, rfl⟩
    go_wp2_with fail
    go_ret
    exact ⟨rfl, H4.out⟩
set_option maxHeartbeats 4000000 in
theorem walk_good (w : World) (k : Int) (al : Bool) (n lo hi : Int) (b1 : -9223372036854775808 ≤ n ∧ n ≤ 9223372036854775807) (b2 : -9223372036854775808 ≤ lo ∧ lo ≤ 9223372036854775807) (b3 : -9223372036854775808 ≤ hi ∧ hi ≤ 9223372036854775807) (hl : lo ≤ n) (hh : n ≤ hi) :
    Calls Try.prog 5 #[.int .i64 k, .bool al, .int .i64 n, .int .i64 lo, .int .i64 hi] w fun e w' => e = .returned (.bool true) ∧ Below w.heap.size w w' := by
  have her := wErr_ok hl hh
  have HWB := Lib.hid (fun B => wBits_ok hl hh al B)
  have hvR : (n - lo).toNat ≤ (hi - lo).toNat := by omega
  have hR : (hi - lo).toNat < 2 ^ 64 := by omega
  have q1 : decide (lo < hi) = true ∨ (decide (lo < hi) = false ∧ (hi - lo).toNat = 0 ∧ (n - lo).toNat = 0) := by
    rcases Classical.em (lo < hi) with h | h
    · exact .inl (decide_eq_true h)
    · exact .inr ⟨decide_eq_false h, by omega, by omega⟩
  go_enter Try.func5, Try.ntmps5
  go_wp2_with fail
  refine (wawake _).mono ?_
  rintro e w1 ⟨rfl, hb⟩
  have HB := Lib.hid hb
  clear hb
  go_wp2_with fail
  refine (ahead_ok k w1).mono ?_
  rintro e w2 ⟨b, m, hm, hmk, rfl, hbw, hw, hb⟩
  have H1 := Lib.hid (HB.out.trans (hb.mono HB.out.size))
  have H2 := Lib.hid hw
  have hbw' : w.heap.size ≤ b := by have := HB.out.size; omega
  have hlen : (List.replicate m true).length ≤ 64 := by rw [List.length_replicate]; omega
  clear hb hw hbw HB hmk
  generalize List.replicate m true = B at *
  have HP := Lib.hid (wput_any w2 b B al n lo hi H2.out b1 b2 b3 (by omega))
  rw [her, HWB.out] at HP
  have hle := putW_le al B (n - lo).toNat (hi - lo).toNat hvR hR
  have hbk := back_has al (wb (putW al B (n - lo).toNat (hi - lo).toNat)) B _ _ hvR hR (by obtain ⟨t, ht, _⟩ := wb_bits (putW al B (n - lo).toNat (hi - lo).toNat); exact ⟨_, ht⟩)
  have hlo : ((lo + ((n - lo).toNat : Int)) : Int) = n := by omega
  obtain ⟨ge, gn, gp⟩ := gE_ok (by omega) hbk hvR
  rw [hlo] at gn
  have hB0 : gerr (wb (putW al B (n - lo).toNat (hi - lo).toNat)) 0 B.length = 0 ∧ gpos (wb (putW al B (n - lo).toNat (hi - lo).toNat)) 0 B.length = B.length := by
    obtain ⟨S, hS⟩ := putW_pre al B (n - lo).toNat (hi - lo).toNat
    obtain ⟨g1, g2, g3⟩ := get_has (Has.wb (W := putW al B (n - lo).toNat (hi - lo).toNat) (A := []) (S := B) (R := S) (by rw [hS]; rfl)) 0 B.length rfl rfl hlen
    exact ⟨g1, by rw [g3]; omega⟩
  have hE0 : (hi - lo).toNat = 0 → (n - lo).toNat = 0 → putW al B (n - lo).toNat (hi - lo).toNat = B := by
    intro h1 h2
    rw [h1, h2, putW_small (.inr (by omega)), wid_zero]
    simp [nb]
  have hL : (wb (putW al B (n - lo).toNat (hi - lo).toNat)).length ≤ 1000000 := by
    unfold wb
    split
    · simp
    · rw [octs_length]; omega
  have q2 : decide (lo < hi) = true ∨ (decide (lo < hi) = false ∧ putW al B (n - lo).toNat (hi - lo).toNat = B) := by
    rcases q1 with h | ⟨h1, h2, h3⟩
    · exact .inl h
    · exact .inr ⟨h1, hE0 h2 h3⟩
  clear q1 hE0 hbk hlo HWB hvR hR her hl hh
  generalize putW al B (n - lo).toNat (hi - lo).toNat = W at *
  have hW : W.length ≤ 100000 := by omega
  clear hle
  go_wp2_with fail
  refine (len_ok w2 b B H2.out).mono ?_
  rintro e w3 ⟨rfl, rfl⟩
  go_wp2_with fail
  refine HP.out.mono ?_
  rintro e w3 ⟨rfl, h1, h2⟩
  have H3 := Lib.hid h1
  have H4 := Lib.hid (H1.out.trans (h2.below hbw' H1.out.size))
  clear h1 h2 H1 H2 HP
  go_wp2_with fail
  refine (wbytes_any w3 b W H3.out (by omega)).mono ?_
  rintro e w4 ⟨rfl, hr, hb⟩
  have HS := Lib.hid (sl_of_row hr (wb_lt W) rfl)
  have H5 := Lib.hid (H3.out.below hb)
  have H6 := Lib.hid (H4.out.trans (hb.mono H4.out.size))
  clear hr hb H3 H4
  generalize wb W = L at *
  go_wp2_with fail
  refine (new_ok w4 _ L HS.out (by omega)).mono ?_
  rintro e w5 ⟨s, r, rfl, hr1, hrd1, hb1⟩
  have H7 := Lib.hid (H5.out.below hb1)
  have H8 := Lib.hid (H6.out.trans (hb1.mono H6.out.size))
  have HR := Lib.hid hrd1
  have hbr : b ≠ r := by have := H5.out.lt; omega
  have hrw : w.heap.size ≤ r := by have := H6.out.size; omega
  clear hr1 hrd1 hb1 H5 H6 HS
  go_wp2_with fail
  have HG := get_any w5 r L 0 B.length HR.out (by omega)
  rw [hB0.2] at HG
  refine HG.mono ?_
  rintro e w6 ⟨rfl, h1, h2⟩
  have HR2 := Lib.hid h1
  have H9 := Lib.hid (H7.out.keep h2 hbr (fun c' q' e => by
    obtain ⟨hc, _⟩ := HR.out
    rw [hc] at e
    unfold chObj at e
    injection e with e
    injection e with e1 e2 e3
    exact absurd e2 (by decide)))
  have H10 := Lib.hid (H8.out.trans (h2.below hrw H8.out.size))
  clear h1 h2 H7 H8 HR HG hB0
  generalize gval L 0 B.length = gv at *
  generalize gerr L 0 B.length = gr at *
  go_wp2_with fail
  have HG := wget_any w6 r L B.length al lo hi HR2.out (by omega) b2 b3
  rw [ge, gn, gp] at HG
  refine HG.mono ?_
  rintro e w7 ⟨rfl, h1, h2⟩
  have HR3 := Lib.hid h1
  have H11 := Lib.hid (H9.out.keep h2 hbr (fun c' q' e => by
    obtain ⟨hc, _⟩ := HR2.out
    rw [hc] at e
    unfold chObj at e
    injection e with e
    injection e with e1 e2 e3
    exact absurd e2 (by decide)))
  have H12 := Lib.hid (H10.out.trans (h2.below hrw H10.out.size))
  clear h1 h2 H9 H10 HR2 HG ge gn gp
  rcases q2 with q2 | ⟨q2, rfl⟩
  all_goals
    go_wp2_with fail
    refine (pos_ok w7 r L _ HR3.out).mono ?_
    rintro e w8 ⟨rfl, rfl⟩
    go_wp2_with fail
    refine (len_ok w7 b _ H11.out).mono ?_
    rintro e w8 ⟨rfl, rfl⟩
    go_wp2_with (go_at_call 14; refine (len_ok w7 b _ H11.out).mono ?_; rintro e w8 ⟨rfl, rfl⟩)
    go_ret
    exact ⟨rfl, H12.out⟩
theorem walk (w : World) (k : Int) (w0 : (Lit.int .i64 k).wf = true) (al : Bool) (n : Int) (w1 : (Lit.int .i64 n).wf = true) (lo : Int) (w2 : (Lit.int .i64 lo).wf = true) (hi : Int) (w3 : (Lit.int .i64 hi).wf = true) :
    Calls Try.prog 5 #[.int .i64 k, .bool al, .int .i64 n, .int .i64 lo, .int .i64 hi] w fun e w' => e = .returned (.bool true) ∧ Below w.heap.size w w' := by
  have b1 := i64_bounds w1
  have b2 := i64_bounds w2
  have b3 := i64_bounds w3
  by_cases h1 : hi < lo
  · exact walk_bad w k al n lo hi b1 b2 b3 1 (wErr_arg h1) (by decide) (by simp [h1])
  by_cases h2 : n < lo ∨ hi < n
  · exact walk_bad w k al n lo hi b1 b2 b3 4 (wErr_con (by omega) h2) (by decide) (by rcases h2 with h | h <;> simp [h])
  · exact walk_good w k al n lo hi b1 b2 b3 (by omega) (by omega)

set_option maxRecDepth 100000 in
theorem lifted (os : Os) (started : os.Started) (H : Type) (enc : TypeId × Value → H) :
    ReturnsInHanded {} Try.checked os 5 .any (Rows.wholeBackSpec.pre6 enc Try.prog Try.f5 Rows.wholeBackRow.domain false) (Rows.wholeBackSpec.post enc Try.prog Try.f5 false true false false) := by
  refine returnsInHanded_of_change (C := Try.checked) own started (by kernel_rfl) Try.func5
    (ChangeSpec.witness6 (enc := enc) (C := Try.checked) false ⟨#[], #[.int .i64 0, .bool false, .int .i64 0, .int .i64 0, .int .i64 0], []⟩ 8 (by kernel_rfl) (by kernel_rfl) (by kernel_rfl) (by kernel_rfl)) ?_
  intro W base args ds gs before hval0 hW hcnd _
  have hval : ∀ (j : Nat) t v, Try.f5.params[j]? = some t → args[j]? = some v → Value.okWide Try.prog W .any base t v := hval0
  have hW' := hW
  obtain ⟨p, q, hA0, hV, rfl, hfz, hnd⟩ := hW
  have hA : DataW.TrodAll enc Try.prog W 0 (fun _ => true) true Try.f5.params.toList args.toList ds p := hA0
  rw [Try.params5] at hA hval
  obtain ⟨v0, vs0, d0, ds0, p0, q0, hargs, rfl, rfl, h0, r0⟩ := trodAll_cons hA
  obtain ⟨v1, vs1, d1, ds1, p1, q1, rfl, rfl, rfl, h1, r1⟩ := trodAll_cons r0
  obtain ⟨v2, vs2, d2, ds2, p2, q2, rfl, rfl, rfl, h2, r2⟩ := trodAll_cons r1
  obtain ⟨v3, vs3, d3, ds3, p3, q3, rfl, rfl, rfl, h3, r3⟩ := trodAll_cons r2
  obtain ⟨v4, vs4, d4, ds4, p4, q4, rfl, rfl, rfl, h4, r4⟩ := trodAll_cons r3
  obtain ⟨rfl, rfl, rfl⟩ := trodAll_nil r4
  obtain rfl : args = #[v0, v1, v2, v3, v4] := by cases args; simp_all
  obtain ⟨rfl, rfl⟩ := trodVars_none hV
  obtain ⟨a0, rfl, rfl, rfl, w0⟩ := open_int Try.underlying3 (hval 0 3 v0 rfl rfl) h0
  obtain ⟨a1, rfl, rfl, rfl⟩ := open_bool Try.underlying4 (hval 1 4 v1 rfl rfl) h1
  obtain ⟨a2, rfl, rfl, rfl, w2⟩ := open_int Try.underlying3 (hval 2 3 v2 rfl rfl) h2
  obtain ⟨a3, rfl, rfl, rfl, w3⟩ := open_int Try.underlying3 (hval 3 3 v3 rfl rfl) h3
  obtain ⟨a4, rfl, rfl, rfl, w4⟩ := open_int Try.underlying3 (hval 4 3 v4 rfl rfl) h4
  clear hA0 hval0
  refine (walk W a0 w0 a1 a2 w2 a3 w3 a4 w4).mono fun e W' ⟨he, bel⟩ => ?_
  subst he
  exact ⟨_, rfl, _, _, _, [], _, [], hW', trodAll_mk1 (shut_bool Try.underlying4 _), (trodAll_cons_mk (shut_int Try.underlying3 w0) (trodAll_cons_mk (shut_bool Try.underlying4 a1) (trodAll_cons_mk (shut_int Try.underlying3 w2) (trodAll_cons_mk (shut_int Try.underlying3 w3) (trodAll_cons_mk (shut_int Try.underlying3 w4) trodAll_mk0))))), rfl, bel.frame _, fun h => by cases h⟩

theorem over : Rows.wholeBackRow.holds Try.pinned (OpenSpec.ofChange Rows.wholeBackSpec) :=
  OpenClaim.holds_of_wide 5 Try.f5 rfl rfl rfl rfl rfl rfl rfl ⟨rfl, rfl, rfl, rfl, rfl⟩ rfl rfl rfl rfl rfl (by kernel_rfl) Try.func5 (by kernel_rfl)
    (of_decide_eq_true (by kernel_rfl)) (by unfold Func.isWrapper; first | (rw [if_pos (by decide +kernel)]; kernel_rfl) | (rw [if_neg (by decide +kernel)]; exact ⟨rfl, rfl⟩))
    (fun os started H enc _ => lifted os started H enc)

theorem proved : Rows.WholeBackSaid := over
end Go.Proofs.Ytieefphfldkbhaa.wholeBack
