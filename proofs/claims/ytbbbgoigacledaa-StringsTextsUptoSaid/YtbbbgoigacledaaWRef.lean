/-
  The document's answers for package whole: writing.
-/
import Derived.Test.YtbbbgoigacledaaWhM
import Derived.Test.YtbbbgoigacledaaOref2
import Derived.Test.YtbbbgoigacledaaRef2
namespace Go.Proofs.Ytbbbgoigacledaa
open Go.RowKit
set_option linter.unusedVariables false
set_option linter.unusedSimpArgs false
set_option maxRecDepth 100000

theorem roff_num (n lo : Int) (h1 : -9223372036854775808 ≤ lo) (h2 : lo ≤ n) (h3 : n ≤ 9223372036854775807) : IntKind.u64.wrap (IntKind.u64.wrap n - IntKind.u64.wrap lo) = ((n - lo).toNat : Int) := by
  simp only [IntKind.wrap, IntKind.signed, IntKind.bits]
  simp
  omega
theorem rfield_ok (w : World) (B : List Bool) (v k : Nat) (hB : B.length ≤ 100000000) (hk : k ≤ 64) (hv : v < 2 ^ k) :
    Calls Try.prog 90 #[.string (bchars B), .int .u64 v, .int .i64 k] w fun e w' => e = .returned (.string (bchars (B ++ nb v k))) ∧ Below w.heap.size w w' := by
  have HP := Lib.hid (rput_ok w B v k hB hk hv)
  go_enter Try.func90, Try.ntmps90
  go_wp2_with fail
  refine HP.out.mono ?_
  rintro e w1 ⟨rfl, h1⟩
  have H1 := Lib.hid h1
  clear h1
  go_wp2_with fail
  go_ret
  exact ⟨rfl, H1.out⟩
/-- where nothing is aligned -/
theorem rwput_small (w : World) (B : List Bool) (al : Bool) (n lo hi : Int) (hB : B.length ≤ 10000000) (b1 : -9223372036854775808 ≤ lo) (b2 : lo ≤ n) (b3 : n ≤ hi) (b4 : hi ≤ 9223372036854775807) (v R : Nat) (hv : (n - lo).toNat = v) (hR : (hi - lo).toNat = R) (h : al = false ∨ R ≤ 254) :
    Calls Try.prog 82 #[.string (bchars B), .bool al, .int .i64 n, .int .i64 lo, .int .i64 hi] w fun e w' =>
      e = .returned (.tuple #[.string (bchars (B ++ nb v (wid R))), .int .i64 0]) ∧ Below w.heap.size w w' := by
  have q1 : decide (hi < lo) = false := decide_eq_false (by omega)
  have q2 : decide (n < lo) = false := decide_eq_false (by omega)
  have q3 : decide (hi < n) = false := decide_eq_false (by omega)
  have hr : R < 2 ^ 64 := by omega
  have hvR : v ≤ R := by omega
  have h64 := wid_le64 R hr
  have hw := wid_lt R hr
  have o1 := roff_num hi lo b1 (by omega) b4
  have o2 := roff_num n lo b1 b2 (by omega)
  rw [hR] at o1
  rw [hv] at o2
  have HW := Lib.hid (rwidth_ok R w hr)
  have HF := Lib.hid (rfield_ok w B v (wid R) (by omega) h64 (by omega))
  generalize wid R = k at *
  have h' : al = false ∨ (al = true ∧ decide ((R : Int) ≤ 254) = true) := by
    cases al with
    | false => exact .inl rfl
    | true => exact .inr ⟨rfl, decide_eq_true (by rcases h with h | h; cases h; omega)⟩
  clear hv hR b1 b2 b3 b4 hr h hvR hw
  rcases h' with rfl | ⟨rfl, q4⟩
  all_goals
    go_enter Try.func82, Try.ntmps82
    go_wp2_with fail
    refine HW.out.mono ?_
    rintro e w1 ⟨rfl, rfl⟩
    go_wp2_with fail
    refine HF.out.mono ?_
    rintro e w1 ⟨rfl, h1⟩
    have H1 := Lib.hid h1
    clear h1
    go_wp2_with fail
    go_ret2
    exact ⟨rfl, H1.out⟩
/-- the form of one and of two octets -/
theorem rwput_mid (w : World) (B : List Bool) (n lo hi : Int) (hB : B.length ≤ 10000000) (b1 : -9223372036854775808 ≤ lo) (b2 : lo ≤ n) (b3 : n ≤ hi) (b4 : hi ≤ 9223372036854775807) (v R k : Nat) (hv : (n - lo).toNat = v) (hR : (hi - lo).toNat = R) (hk : k = 8 ∧ R = 255 ∨ k = 16 ∧ 255 < R ∧ R ≤ 65535) :
    Calls Try.prog 82 #[.string (bchars B), .bool true, .int .i64 n, .int .i64 lo, .int .i64 hi] w fun e w' =>
      e = .returned (.tuple #[.string (bchars (padded B ++ nb v k)), .int .i64 0]) ∧ Below w.heap.size w w' := by
  have q1 : decide (hi < lo) = false := decide_eq_false (by omega)
  have q2 : decide (n < lo) = false := decide_eq_false (by omega)
  have q3 : decide (hi < n) = false := decide_eq_false (by omega)
  have hvR : v ≤ R := by omega
  have o1 := roff_num hi lo b1 (by omega) b4
  have o2 := roff_num n lo b1 b2 (by omega)
  rw [hR] at o1
  rw [hv] at o2
  have hpl := padded_le B
  have HA := Lib.hid (ralignS_ok w B (by omega))
  have HF := Lib.hid (fun w => rfield_ok w (padded B) v k (by omega) (by omega) (by rcases hk with ⟨rfl, _⟩ | ⟨rfl, _, _⟩ <;> omega))
  have q4 : decide ((R : Int) ≤ 254) = false := decide_eq_false (by omega)
  have q6 : decide ((R : Int) ≤ 65535) = true := decide_eq_true (by omega)
  clear hv hR b1 b2 b3 b4 hvR hpl
  rcases hk with ⟨rfl, hk⟩ | ⟨rfl, hk, hk2⟩
  · have q5 : ((R : Int) == 255) = true := by simp; omega
    clear hk
    go_enter Try.func82, Try.ntmps82
    go_wp2_with fail
    refine HA.out.mono ?_
    rintro e w1 ⟨rfl, h1⟩
    have H1 := Lib.hid h1
    clear h1
    go_wp2_with fail
    refine (HF.out w1).mono ?_
    rintro e w2 ⟨rfl, h1⟩
    have H2 := Lib.hid (H1.out.trans (h1.mono H1.out.size))
    clear h1
    go_wp2_with fail
    go_ret2
    exact ⟨rfl, H2.out⟩
  · have q5 : ((R : Int) == 255) = false := by simp; omega
    clear hk hk2
    go_enter Try.func82, Try.ntmps82
    go_wp2_with fail
    refine HA.out.mono ?_
    rintro e w1 ⟨rfl, h1⟩
    have H1 := Lib.hid h1
    clear h1
    go_wp2_with fail
    refine (HF.out w1).mono ?_
    rintro e w2 ⟨rfl, h1⟩
    have H2 := Lib.hid (H1.out.trans (h1.mono H1.out.size))
    clear h1
    go_wp2_with fail
    go_ret2
    exact ⟨rfl, H2.out⟩
/-- the form with a count -/
theorem rwput_big (w : World) (B : List Bool) (n lo hi : Int) (hB : B.length ≤ 1000000) (b1 : -9223372036854775808 ≤ lo) (b2 : lo ≤ n) (b3 : n ≤ hi) (b4 : hi ≤ 9223372036854775807) (v R : Nat) (hv : (n - lo).toNat = v) (hR : (hi - lo).toNat = R) (hk : 65535 < R) :
    Calls Try.prog 82 #[.string (bchars B), .bool true, .int .i64 n, .int .i64 lo, .int .i64 hi] w fun e w' =>
      e = .returned (.tuple #[.string (bchars (padded (B ++ nb (cnt v - 1) (wid (cnt R - 1))) ++ bitsOf (low v (cnt v)))), .int .i64 0]) ∧ Below w.heap.size w w' := by
  have q1 : decide (hi < lo) = false := decide_eq_false (by omega)
  have q2 : decide (n < lo) = false := decide_eq_false (by omega)
  have q3 : decide (hi < n) = false := decide_eq_false (by omega)
  have hvR : v ≤ R := by omega
  have hr : R < 2 ^ 64 := by omega
  have o1 := roff_num hi lo b1 (by omega) b4
  have o2 := roff_num n lo b1 b2 (by omega)
  rw [hR] at o1
  rw [hv] at o2
  have q4 : decide ((R : Int) ≤ 254) = false := decide_eq_false (by omega)
  have q5 : ((R : Int) == 255) = false := by simp; omega
  have q6 : decide ((R : Int) ≤ 65535) = false := decide_eq_false (by omega)
  obtain ⟨c1, c2, c3, c4⟩ := cnt_sub v R hvR hr
  have hw7 := wid7 c3
  have HC1 := Lib.hid (rcount_ok v w (by omega))
  have HC2 := Lib.hid (rcount_ok R w hr)
  have hcm := cnt_mono v R hvR hr
  have HP := Lib.hid (rwput_small w B true (cnt v) 1 (cnt R) (by omega) (by omega) (by omega) (by omega) (by omega) (cnt v - 1) (cnt R - 1) (by omega) (by omega) (.inr (by omega)))
  have hl1 : (B ++ nb (cnt v - 1) (wid (cnt R - 1))).length ≤ 10000000 := by rw [List.length_append, nb_length]; omega
  have hl2 := padded_le (B ++ nb (cnt v - 1) (wid (cnt R - 1)))
  have hl3 : (low v (cnt v)).length ≤ 1000000 := by rw [low_length]; have := cnt_le v (by omega); omega
  have HU := Lib.hid (fun w : World => runsigned_ok v w (by omega))
  generalize B ++ nb (cnt v - 1) (wid (cnt R - 1)) = B1 at *
  generalize low v (cnt v) = l at *
  have HA := Lib.hid (fun w => ralignS_ok w B1 (by omega))
  have HO := Lib.hid (fun w s h => rocts_sl w (padded B1) s l h (by omega) (by omega))
  generalize cnt v = c at *
  generalize cnt R = d at *
  clear hv hR b1 b2 b3 b4 hvR hr hk c1 c2 c3 c4 hw7 hcm hl1 hl2 hl3
  go_enter Try.func82, Try.ntmps82
  go_wp2_with fail
  refine HC1.out.mono ?_
  rintro e w1 ⟨rfl, rfl⟩
  go_wp2_with fail
  refine HC2.out.mono ?_
  rintro e w1 ⟨rfl, rfl⟩
  go_wp2_with fail
  refine HP.out.mono ?_
  rintro e w1 ⟨rfl, h1⟩
  have H1 := Lib.hid h1
  clear h1
  go_wp2_with fail
  refine (HA.out w1).mono ?_
  rintro e w2 ⟨rfl, h1⟩
  have H2 := Lib.hid (H1.out.trans (h1.mono H1.out.size))
  clear h1 H1
  go_wp2_with fail
  refine (HU.out w2).mono ?_
  rintro e w3 ⟨s, rfl, hs, hb⟩
  have HS := Lib.hid hs.sl
  have H3 := Lib.hid (H2.out.trans (hb.mono H2.out.size))
  clear hs hb H2
  go_wp2_with fail
  refine (HO.out w3 s HS.out).mono ?_
  rintro e w4 ⟨rfl, h1⟩
  have H4 := Lib.hid (H3.out.trans (h1.mono H3.out.size))
  clear h1 H3
  go_wp2_with fail
  go_ret2
  exact ⟨rfl, H4.out⟩
theorem rwput_any (w : World) (B : List Bool) (al : Bool) (n lo hi : Int) (hB : B.length ≤ 1000000) (b1 : -9223372036854775808 ≤ n ∧ n ≤ 9223372036854775807) (b2 : -9223372036854775808 ≤ lo ∧ lo ≤ 9223372036854775807) (b3 : -9223372036854775808 ≤ hi ∧ hi ≤ 9223372036854775807) :
    Calls Try.prog 82 #[.string (bchars B), .bool al, .int .i64 n, .int .i64 lo, .int .i64 hi] w fun e w' =>
      e = .returned (.tuple #[.string (bchars (wBits al B n lo hi)), .int .i64 (wErr n lo hi)]) ∧ Below w.heap.size w w' := by
  by_cases hlh : hi < lo
  · have he := wErr_arg (n := n) hlh
    rw [wBits_bad (by rw [he]; decide), he]
    have q1 : decide (hi < lo) = true := decide_eq_true hlh
    clear he
    go_enter Try.func82, Try.ntmps82
    go_wp2_with fail
    go_ret2
    exact ⟨rfl, Below.refl _ _⟩
  have q1 : decide (hi < lo) = false := decide_eq_false hlh
  by_cases hnl : n < lo
  · have he := wErr_con (n := n) (show lo ≤ hi by omega) (.inl hnl)
    rw [wBits_bad (by rw [he]; decide), he]
    have q2 : decide (n < lo) = true := decide_eq_true hnl
    clear he
    go_enter Try.func82, Try.ntmps82
    go_wp2_with fail
    go_ret2
    exact ⟨rfl, Below.refl _ _⟩
  have q2 : decide (n < lo) = false := decide_eq_false hnl
  by_cases hnh : hi < n
  · have he := wErr_con (n := n) (show lo ≤ hi by omega) (.inr hnh)
    rw [wBits_bad (by rw [he]; decide), he]
    have q3 : decide (hi < n) = true := decide_eq_true hnh
    clear he
    go_enter Try.func82, Try.ntmps82
    go_wp2_with fail
    go_ret2
    exact ⟨rfl, Below.refl _ _⟩
  rw [wBits_ok (by omega) (by omega), wErr_ok (by omega) (by omega)]
  by_cases h1 : al = false ∨ (hi - lo).toNat ≤ 254
  · rw [putW_small h1]
    exact rwput_small w B al n lo hi (by omega) b2.1 (by omega) (by omega) b3.2 _ _ rfl rfl h1
  have hal : al = true := by cases al <;> simp_all
  subst hal
  have h2 : 254 < (hi - lo).toNat := by simp at h1; omega
  by_cases h3 : (hi - lo).toNat = 255
  · rw [h3, putW_255]
    exact rwput_mid w B n lo hi (by omega) b2.1 (by omega) (by omega) b3.2 _ _ 8 rfl h3 (.inl ⟨rfl, rfl⟩)
  by_cases h4 : (hi - lo).toNat ≤ 65535
  · rw [putW_16 (by omega) h4]
    exact rwput_mid w B n lo hi (by omega) b2.1 (by omega) (by omega) b3.2 _ _ 16 rfl rfl (.inr ⟨rfl, by omega, h4⟩)
  · rw [putW_big (by omega)]
    exact rwput_big w B n lo hi hB b2.1 (by omega) (by omega) b3.2 _ _ rfl rfl (by omega)
end Go.Proofs.Ytbbbgoigacledaa
