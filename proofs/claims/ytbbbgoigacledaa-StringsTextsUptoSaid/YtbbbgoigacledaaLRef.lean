/-
  The document's answers for package length: writing.
-/
import Derived.Test.YtbbbgoigacledaaLnM
import Derived.Test.YtbbbgoigacledaaWRef
import Derived.OwnWalk
namespace Go.Proofs.Ytbbbgoigacledaa
open Go.RowKit
set_option linter.unusedVariables false
set_option linter.unusedSimpArgs false
set_option maxRecDepth 100000

theorem results_tmp4 {fn : Func} {t u v x : Tmp} (h : fn.results = #[.tmp t, .tmp u, .tmp v, .tmp x]) (tmps : Array Value) (P : Program) (w : World) :
    (results fn tmps).run P w = .ok (.tuple #[tmps.getD t undef, tmps.getD u undef, tmps.getD v undef, tmps.getD x undef]) w := by
  simp [results, h]
theorem bchars_app (B C : List Bool) : bchars B ++ bchars C = bchars (B ++ C) := by
  apply ByteArray.ext
  rw [ByteArray.data_append]
  unfold bchars
  rw [List.map_append]
  apply Array.ext'
  simp
theorem may_ok (lo hi : Int) (w : World) (b : Bool) (hb : b = decide (¬ lBad lo hi)) :
    Calls Try.prog 81 #[.int .i64 lo, .int .i64 hi] w fun e w' => e = .returned (.bool b) ∧ w = w' := by
  unfold lBad at hb
  by_cases h1 : lo < 0
  · have q1 : decide ((0 : Int) ≤ lo) = false := decide_eq_false (by omega)
    have : b = false := by rw [hb]; exact decide_eq_false (by omega)
    subst this
    clear hb h1
    go_enter Try.func81, Try.ntmps81
    go_wp2_with fail
    go_ret
    exact ⟨rfl, rfl⟩
  have q1 : decide ((0 : Int) ≤ lo) = true := decide_eq_true (by omega)
  by_cases h2 : hi < 0
  · have q2 : decide (hi < (0 : Int)) = true := decide_eq_true (by omega)
    have : b = true := by rw [hb]; exact decide_eq_true (by omega)
    subst this
    clear hb h1 h2
    go_enter Try.func81, Try.ntmps81
    go_wp2_with fail
    go_ret
    exact ⟨rfl, rfl⟩
  have q2 : decide (hi < (0 : Int)) = false := decide_eq_false (by omega)
  have q3 : decide (lo ≤ hi) = b := by
    rw [hb, decide_eq_decide]
    omega
  clear hb h1 h2
  go_enter Try.func81, Try.ntmps81
  go_wp2_with fail
  go_ret
  exact ⟨rfl, rfl⟩
theorem close_ok (hi : Int) (w : World) (b : Bool) (hb : b = lNar hi) :
    Calls Try.prog 80 #[.int .i64 hi] w fun e w' => e = .returned (.bool b) ∧ w = w' := by
  unfold lNar at hb
  by_cases h1 : hi < 0
  · have q1 : decide ((0 : Int) ≤ hi) = false := decide_eq_false (by omega)
    have : b = false := by rw [hb]; exact decide_eq_false (by omega)
    subst this
    clear hb h1
    go_enter Try.func80, Try.ntmps80
    go_wp2_with fail
    go_ret
    exact ⟨rfl, rfl⟩
  have q1 : decide ((0 : Int) ≤ hi) = true := decide_eq_true (by omega)
  have q3 : decide (hi ≤ (65535 : Int)) = b := by
    rw [hb, decide_eq_decide]
    omega
  clear hb h1
  go_enter Try.func80, Try.ntmps80
  go_wp2_with fail
  go_ret
  exact ⟨rfl, rfl⟩
theorem lfield_ok (w : World) (B : List Bool) (v k : Nat) (hB : B.length ≤ 100000000) (hk : k ≤ 64) (hv : v < 2 ^ k) (hv2 : v < 9223372036854775807) :
    Calls Try.prog 83 #[.string (bchars B), .int .i64 v, .int .i64 k] w fun e w' => e = .returned (.string (bchars (B ++ nb v k))) ∧ Below w.heap.size w w' := by
  have HP := Lib.hid (rput_ok w B v k hB hk hv)
  clear hv
  go_enter Try.func83, Try.ntmps83
  go_wp2_with fail
  refine HP.out.mono ?_
  rintro e' w1 ⟨rfl, h1⟩
  have H1 := Lib.hid h1
  clear h1 
  go_wp2_with fail
  go_ret
  exact ⟨rfl, H1.out⟩
theorem lfield10 (w : World) (B : List Bool) (c : Nat) (hB : B.length ≤ 10000000) (h1 : 128 ≤ c) (h2 : c < 16384) :
    Calls Try.prog 83 #[.string (bchars B ++ ⟨#[49, 48]⟩), .int .i64 c, .int .i64 14] w fun e w' => e = .returned (.string (bchars (B ++ formB c))) ∧ Below w.heap.size w w' := by
  have h := lfield_ok w (B ++ [true, false]) c 14 (by simp; omega) (by omega) (by omega) (by omega)
  rw [List.append_assoc, nb_10 h2, ← formB_two h1 h2, ← bchars_app B [true, false]] at h
  exact h
theorem lfield11 (w : World) (B : List Bool) (m : Nat) (hB : B.length ≤ 10000000) (h1 : 1 ≤ m) (h2 : m ≤ 4) :
    Calls Try.prog 83 #[.string (bchars B ++ ⟨#[49, 49]⟩), .int .i64 m, .int .i64 6] w fun e w' => e = .returned (.string (bchars (B ++ formB (16384 * m)))) ∧ Below w.heap.size w w' := by
  have h := lfield_ok w (B ++ [true, true]) m 6 (by simp; omega) (by omega) (by omega) (by omega)
  rw [List.append_assoc, nb_11 (by omega), show nb (192 + m) 8 = formB (16384 * m) by rw [formB_frag (by omega), show 16384 * m / 16384 = m by omega], ← bchars_app B [true, true]] at h
  exact h
theorem lfield0 (w : World) (B : List Bool) (m : Nat) (hB : B.length ≤ 10000000) (h2 : m < 64) :
    Calls Try.prog 83 #[.string (bchars B ++ ⟨#[48]⟩), .int .i64 m, .int .i64 6] w fun e w' => e = .returned (.string (bchars (B ++ nb m 7))) ∧ Below w.heap.size w w' := by
  have h := lfield_ok w (B ++ [false]) m 6 (by simp; omega) (by omega) (by omega) (by omega)
  rw [List.append_assoc, nb_0 h2, ← bchars_app B [false]] at h
  exact h
set_option maxHeartbeats 2000000 in
/-- the forms -/
theorem rlput_form (w : World) (B : List Bool) (al : Bool) (N : Nat) (lo hi : Int) (hB : B.length ≤ 1000000) (b1 : (N : Int) ≤ 9223372036854775807) (h1 : 0 ≤ lo) (h2 : lo ≤ N) (h3 : hi < 0 ∨ ((N : Int) ≤ hi ∧ 65535 < hi)) :
    Calls Try.prog 64 #[.string (bchars B), .bool al, .int .i64 N, .int .i64 lo, .int .i64 hi] w fun e' w' =>
      e' = .returned (.tuple #[.string (bchars (putF al B (lfst N))), .int .i64 (lfst N : Nat), .bool (decide (16384 ≤ N)), .int .i64 0]) ∧ Below w.heap.size w w' := by
  have HM := Lib.hid (may_ok lo hi w true (by unfold lBad; simp; omega))
  have HC := Lib.hid (close_ok hi w false (lNar_no (by omega)).symm)
  have q1 : decide ((N : Int) < lo) = false := decide_eq_false (by omega)
  have q2 : decide ((0 : Int) ≤ hi) = false ∨ decide ((0 : Int) ≤ hi) = true ∧ decide (hi < (N : Int)) = false := by
    rcases h3 with h | ⟨h, _⟩
    · exact .inl (decide_eq_false (by omega))
    · exact .inr ⟨decide_eq_true (by omega), decide_eq_false (by omega)⟩
  have hpl := padded_le B
  have HA := Lib.hid (ralignS_ok w B (by omega))
  clear h1 h2 h3
  unfold putF
  by_cases c1 : N < 128
  · have hc := formB_one c1
    rw [lfst_small (by omega), decide_eq_false (show ¬ 16384 ≤ N by omega), hc]
    have q3 : decide ((N : Int) < 128) = true := decide_eq_true (by omega)
    have HF := Lib.hid (fun w B h => lfield_ok w B N 8 h (by omega) (by omega) (by omega))
    clear c1 hc
    cases al with
    | false =>
      rw [lead_false]
      clear HA
      rcases q2 with q2 | ⟨q2, q4⟩
      all_goals
        go_enter Try.func64, Try.ntmps64
        go_wp2_with fail
        refine HM.out.mono ?_
        rintro e' w1 ⟨rfl, rfl⟩
        go_wp2_with fail
        refine HC.out.mono ?_
        rintro e' w1 ⟨rfl, rfl⟩
        go_wp2_with fail
        refine (HF.out w B (by omega)).mono ?_
        rintro e' w1 ⟨rfl, h1⟩
        have H1 := Lib.hid h1
        clear h1 
        go_wp2_with fail
        (try simp only [Exit.inBlock, Exit.then])
        refine bodyPost_ret (results_tmp4 rfl _ _ _) rfl ?_
        exact ⟨rfl, H1.out⟩
    | true =>
      rw [lead_true]
      generalize padded B = B2 at *
      rcases q2 with q2 | ⟨q2, q4⟩
      all_goals
        go_enter Try.func64, Try.ntmps64
        go_wp2_with fail
        refine HM.out.mono ?_
        rintro e' w1 ⟨rfl, rfl⟩
        go_wp2_with fail
        refine HC.out.mono ?_
        rintro e' w1 ⟨rfl, rfl⟩
        go_wp2_with fail
        refine HA.out.mono ?_
        rintro e' w1 ⟨rfl, h1⟩
        have H1 := Lib.hid h1
        clear h1 
        go_wp2_with fail
        refine (HF.out w1 B2 (by omega)).mono ?_
        rintro e' w2 ⟨rfl, h1⟩
        have H2 := Lib.hid (H1.out.trans (h1.mono H1.out.size))
        clear h1 
        go_wp2_with fail
        (try simp only [Exit.inBlock, Exit.then])
        refine bodyPost_ret (results_tmp4 rfl _ _ _) rfl ?_
        exact ⟨rfl, H2.out⟩
  have q3 : decide ((N : Int) < 128) = false := decide_eq_false (by omega)
  by_cases c2 : N < 16384
  · rw [lfst_small (by omega), decide_eq_false (show ¬ 16384 ≤ N by omega)]
    have q5 : decide ((N : Int) < 16384) = true := decide_eq_true (by omega)
    have HF := Lib.hid (fun w B h => lfield10 w B N h (by omega) c2)
    generalize formB N = fb at *
    clear c1 c2
    cases al with
    | false =>
      rw [lead_false]
      have hz : ¬ (9223372036854775807 < (bchars B).size + 2) := by rw [bchars_size]; omega
      clear HA
      rcases q2 with q2 | ⟨q2, q4⟩
      all_goals
        go_enter Try.func64, Try.ntmps64
        go_wp2_with fail
        refine HM.out.mono ?_
        rintro e' w1 ⟨rfl, rfl⟩
        go_wp2_with fail
        refine HC.out.mono ?_
        rintro e' w1 ⟨rfl, rfl⟩
        go_wp2_with fail
        refine (HF.out w B (by omega)).mono ?_
        rintro e' w1 ⟨rfl, h1⟩
        have H1 := Lib.hid h1
        clear h1 
        go_wp2_with fail
        (try simp only [Exit.inBlock, Exit.then])
        refine bodyPost_ret (results_tmp4 rfl _ _ _) rfl ?_
        exact ⟨rfl, H1.out⟩
    | true =>
      rw [lead_true]
      generalize padded B = B2 at *
      have hz : ¬ (9223372036854775807 < (bchars B2).size + 2) := by rw [bchars_size]; omega
      rcases q2 with q2 | ⟨q2, q4⟩
      all_goals
        go_enter Try.func64, Try.ntmps64
        go_wp2_with fail
        refine HM.out.mono ?_
        rintro e' w1 ⟨rfl, rfl⟩
        go_wp2_with fail
        refine HC.out.mono ?_
        rintro e' w1 ⟨rfl, rfl⟩
        go_wp2_with fail
        refine HA.out.mono ?_
        rintro e' w1 ⟨rfl, h1⟩
        have H1 := Lib.hid h1
        clear h1 
        go_wp2_with fail
        refine (HF.out w1 B2 (by omega)).mono ?_
        rintro e' w2 ⟨rfl, h1⟩
        have H2 := Lib.hid (H1.out.trans (h1.mono H1.out.size))
        clear h1 
        go_wp2_with fail
        (try simp only [Exit.inBlock, Exit.then])
        refine bodyPost_ret (results_tmp4 rfl _ _ _) rfl ?_
        exact ⟨rfl, H2.out⟩
  obtain ⟨m, m1, m4, hm, hmin⟩ := lfst_frag (show 16384 ≤ N by omega)
  rw [hm, decide_eq_true (show 16384 ≤ N by omega)]
  have q5 : decide ((N : Int) < 16384) = false := decide_eq_false (by omega)
  have q6 : min 4 ((N : Int) / 16384) = (m : Int) := by omega
  have HF := Lib.hid (fun w B h => lfield11 w B m h m1 m4)
  generalize formB (16384 * m) = fb at *
  clear c1 c2 hm hmin
  cases al with
  | false =>
    rw [lead_false]
    have hz : ¬ (9223372036854775807 < (bchars B).size + 2) := by rw [bchars_size]; omega
    clear HA
    rcases q2 with q2 | ⟨q2, q4⟩
    all_goals
      go_enter Try.func64, Try.ntmps64
      go_wp2_with fail
      refine HM.out.mono ?_
      rintro e' w1 ⟨rfl, rfl⟩
      go_wp2_with fail
      refine HC.out.mono ?_
      rintro e' w1 ⟨rfl, rfl⟩
      go_wp2_with fail
      refine (HF.out w B (by omega)).mono ?_
      rintro e' w1 ⟨rfl, h1⟩
      have H1 := Lib.hid h1
      clear h1 
      go_wp2_with fail
      (try simp only [Exit.inBlock, Exit.then])
      refine bodyPost_ret (results_tmp4 rfl _ _ _) rfl ?_
      exact ⟨rfl, H1.out⟩
  | true =>
    rw [lead_true]
    generalize padded B = B2 at *
    have hz : ¬ (9223372036854775807 < (bchars B2).size + 2) := by rw [bchars_size]; omega
    rcases q2 with q2 | ⟨q2, q4⟩
    all_goals
      go_enter Try.func64, Try.ntmps64
      go_wp2_with fail
      refine HM.out.mono ?_
      rintro e' w1 ⟨rfl, rfl⟩
      go_wp2_with fail
      refine HC.out.mono ?_
      rintro e' w1 ⟨rfl, rfl⟩
      go_wp2_with fail
      refine HA.out.mono ?_
      rintro e' w1 ⟨rfl, h1⟩
      have H1 := Lib.hid h1
      clear h1 
      go_wp2_with fail
      refine (HF.out w1 B2 (by omega)).mono ?_
      rintro e' w2 ⟨rfl, h1⟩
      have H2 := Lib.hid (H1.out.trans (h1.mono H1.out.size))
      clear h1 
      go_wp2_with fail
      (try simp only [Exit.inBlock, Exit.then])
      refine bodyPost_ret (results_tmp4 rfl _ _ _) rfl ?_
      exact ⟨rfl, H2.out⟩
theorem rlput_any (w : World) (B : List Bool) (al : Bool) (n lo hi : Int) (hB : B.length ≤ 1000000) (b1 : -9223372036854775808 ≤ n ∧ n ≤ 9223372036854775807) (b2 : -9223372036854775808 ≤ lo ∧ lo ≤ 9223372036854775807) (b3 : -9223372036854775808 ≤ hi ∧ hi ≤ 9223372036854775807) :
    Calls Try.prog 64 #[.string (bchars B), .bool al, .int .i64 n, .int .i64 lo, .int .i64 hi] w fun e' w' =>
      e' = .returned (.tuple #[.string (bchars (lBits al B n lo hi)), .int .i64 (lCnt n lo hi), .bool (lMore n lo hi), .int .i64 (lErr n lo hi)]) ∧ Below w.heap.size w w' := by
  by_cases hb : lBad lo hi
  · have he := lErr_arg (n := n) (lo := lo) (hi := hi) (by unfold lBad at hb; omega)
    obtain ⟨p1, p2, p3⟩ := lPut_bad (by rw [he]; decide) al B
    rw [p1, p2, p3, he]
    have HV := Lib.hid (may_ok lo hi w false (by simp [hb]))
    clear he p1 p2 p3
    go_enter Try.func64, Try.ntmps64
    go_wp2_with fail
    refine HV.out.mono ?_
    rintro e' w1 ⟨rfl, rfl⟩
    go_wp2_with fail
    (try simp only [Exit.inBlock, Exit.then])
    refine bodyPost_ret (results_tmp4 rfl _ _ _) rfl ?_
    exact ⟨rfl, Below.refl _ _⟩
  have HV := Lib.hid (may_ok lo hi w true (by simp [hb]))
  by_cases h0 : n < 0
  · have he := lErr_arg (n := n) (lo := lo) (hi := hi) (by omega)
    obtain ⟨p1, p2, p3⟩ := lPut_bad (by rw [he]; decide) al B
    rw [p1, p2, p3, he]
    have q1 : decide (n < (0 : Int)) = true := decide_eq_true h0
    clear he p1 p2 p3
    go_enter Try.func64, Try.ntmps64
    go_wp2_with fail
    refine HV.out.mono ?_
    rintro e' w1 ⟨rfl, rfl⟩
    go_wp2_with fail
    (try simp only [Exit.inBlock, Exit.then])
    refine bodyPost_ret (results_tmp4 rfl _ _ _) rfl ?_
    exact ⟨rfl, Below.refl _ _⟩
  have q1 : decide (n < (0 : Int)) = false := decide_eq_false h0
  have hg : ¬ (lo < 0 ∨ (0 ≤ hi ∧ hi < lo) ∨ n < 0) := by unfold lBad at hb; omega
  by_cases h2 : n < lo
  · have he := lErr_con hg (.inl h2)
    obtain ⟨p1, p2, p3⟩ := lPut_bad (by rw [he]; decide) al B
    rw [p1, p2, p3, he]
    have q2 : decide (n < lo) = true := decide_eq_true h2
    clear he p1 p2 p3
    go_enter Try.func64, Try.ntmps64
    go_wp2_with fail
    refine HV.out.mono ?_
    rintro e' w1 ⟨rfl, rfl⟩
    go_wp2_with fail
    (try simp only [Exit.inBlock, Exit.then])
    refine bodyPost_ret (results_tmp4 rfl _ _ _) rfl ?_
    exact ⟨rfl, Below.refl _ _⟩
  have q2 : decide (n < lo) = false := decide_eq_false h2
  by_cases h3 : 0 ≤ hi ∧ hi < n
  · have he := lErr_con hg (.inr h3)
    obtain ⟨p1, p2, p3⟩ := lPut_bad (by rw [he]; decide) al B
    rw [p1, p2, p3, he]
    have q3 : decide ((0 : Int) ≤ hi) = true := decide_eq_true h3.1
    have q4 : decide (hi < n) = true := decide_eq_true h3.2
    clear he p1 p2 p3 h3
    go_enter Try.func64, Try.ntmps64
    go_wp2_with fail
    refine HV.out.mono ?_
    rintro e' w1 ⟨rfl, rfl⟩
    go_wp2_with fail
    (try simp only [Exit.inBlock, Exit.then])
    refine bodyPost_ret (results_tmp4 rfl _ _ _) rfl ?_
    exact ⟨rfl, Below.refl _ _⟩
  have he := lErr_ok hg (by omega)
  by_cases hh : 0 ≤ hi ∧ hi ≤ 65535
  · obtain ⟨p1, p2, p3⟩ := lPut_nar he hh al B
    rw [p1, p2, p3, he]
    have q3 : decide ((0 : Int) ≤ hi) = true := decide_eq_true hh.1
    have q4 : decide (hi < n) = false := decide_eq_false (by omega)
    have HN := Lib.hid (close_ok hi w true (lNar_yes hh).symm)
    have HP := Lib.hid (rwput_any w B al n lo hi hB b1 b2 b3)
    rw [wErr_ok (by omega) (by omega)] at HP
    clear he p1 p2 p3 hh h3
    go_enter Try.func64, Try.ntmps64
    go_wp2_with fail
    refine HV.out.mono ?_
    rintro e' w1 ⟨rfl, rfl⟩
    go_wp2_with fail
    refine HN.out.mono ?_
    rintro e' w1 ⟨rfl, rfl⟩
    go_wp2_with fail
    refine HP.out.mono ?_
    rintro e' w1 ⟨rfl, h1⟩
    have H1 := Lib.hid h1
    clear h1 
    go_wp2_with fail
    (try simp only [Exit.inBlock, Exit.then])
    refine bodyPost_ret (results_tmp4 rfl _ _ _) rfl ?_
    exact ⟨rfl, H1.out⟩
  · obtain ⟨p1, p2, p3⟩ := lPut_form he hh al B
    obtain ⟨N, rfl⟩ : ∃ N : Nat, n = N := ⟨n.toNat, by omega⟩
    have hm : decide (16384 ≤ (N : Int)) = decide (16384 ≤ N) := by rw [decide_eq_decide]; omega
    rw [p1, p2, p3, he, hm, Int.toNat_natCast]
    exact rlput_form w B al N lo hi hB b1.2 (by omega) (by omega) (by omega)
end Go.Proofs.Ytbbbgoigacledaa
