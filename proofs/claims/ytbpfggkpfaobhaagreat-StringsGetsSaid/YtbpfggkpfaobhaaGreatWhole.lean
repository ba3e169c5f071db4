/-
  The walks of package whole.
-/
import Derived.Test.YtbpfggkpfaobhaaGreatWhM
namespace Go.Proofs.YtbpfggkpfaobhaaGreat
open Go.RowKit
set_option linter.unusedVariables false
set_option linter.unusedSimpArgs false
set_option maxRecDepth 100000

theorem off_num (n lo : Int) (h1 : -9223372036854775808 ≤ lo) (h2 : lo ≤ n) (h3 : n ≤ 9223372036854775807) : IntKind.u64.wrap (IntKind.u64.wrap n - IntKind.u64.wrap lo) = ((n - lo).toNat : Int) := by
  simp only [IntKind.wrap, IntKind.signed, IntKind.bits]
  simp
  omega
theorem offset_ok (n lo : Int) (w : World) (h1 : -9223372036854775808 ≤ lo) (h2 : lo ≤ n) (h3 : n ≤ 9223372036854775807) :
    Calls Tryz.prog 87 #[.int .i64 n, .int .i64 lo] w fun e w' => e = .returned (.int .u64 ((n - lo).toNat : Nat)) ∧ w = w' := by
  have ho := off_num n lo h1 h2 h3
  obtain ⟨d, hd⟩ : ∃ d : Nat, (n - lo).toNat = d := ⟨_, rfl⟩
  rw [hd] at ho ⊢
  clear hd
  go_enter Tryz.func87, Tryz.ntmps87
  go_wp2_with fail
  go_ret
  exact ⟨rfl, rfl⟩
/-- a slice of one's own is no Writer's block -/
theorem new_apart {w w' : World} {v : Value} {l : List Nat} {b : Nat} (h : New w w' v l) (hb : b < w.heap.size) : ∀ g o cap, v = .slice (some ⟨g, o, none⟩) l.length cap → l ≠ [] → g ≠ b := by
  obtain ⟨g, cap, hv, hg, _⟩ := h
  intro g' o' cap' e _
  rw [hv] at e
  injection e with e1
  injection e1 with e1
  injection e1 with e1
  omega
theorem putAl_small (w : World) (b : Nat) (B : List Bool) (v R : Nat) (h : WrAt w b B) (hv : v ≤ R) (hR : R ≤ 254) (hn : B.length ≤ 1000000000) :
    Calls Tryz.prog 88 #[.pointer (some ⟨b, 0, none⟩), .int .u64 v, .int .u64 R] w fun e w' =>
      e = .returned (.int .i64 0) ∧ WrAt w' b (B ++ nb v (wid R)) ∧ Only b w w' := by
  have h64 := wid_le64 R (by omega)
  have hw := wid_lt R (by omega)
  have q1 : decide ((65535 : Int) < (R : Int)) = false := decide_eq_false (by omega)
  have q2 : decide ((255 : Int) < (R : Int)) = false := decide_eq_false (by omega)
  have q3 : ((R : Int) == 255) = false := by simp; omega
  have HW := Lib.hid h
  clear h
  have HC := Lib.hid (width_ok R w (by omega))
  generalize wid R = k at *
  go_enter Tryz.func88, Tryz.ntmps88
  go_wp2_with fail
  refine HC.out.mono ?_
  rintro e w1 ⟨rfl, rfl⟩
  go_wp2_with fail
  refine (put_ok w b B v k HW.out h64 (by omega) (by omega)).mono ?_
  rintro e w1 ⟨rfl, h1, h2⟩
  have H1 := Lib.hid h1
  have H2 := Lib.hid h2
  clear h1 h2
  go_wp2_with fail
  go_ret
  exact ⟨rfl, H1.out, H2.out⟩
/-- whole.Put, aligned, with a range that is small -/
theorem wput_small (w : World) (b : Nat) (B : List Bool) (n hi : Nat) (h : WrAt w b B) (h1 : 1 ≤ n) (h2 : n ≤ hi) (h3 : hi ≤ 100) (hn : B.length ≤ 1000000000) :
    Calls Tryz.prog 79 #[.pointer (some ⟨b, 0, none⟩), .bool true, .int .i64 n, .int .i64 1, .int .i64 hi] w fun e w' =>
      e = .returned (.int .i64 0) ∧ WrAt w' b (B ++ nb (n - 1) (wid (hi - 1))) ∧ Only b w w' := by
  have q1 : decide ((hi : Int) < 1) = false := decide_eq_false (by omega)
  have q2 : decide ((n : Int) < 1) = false := decide_eq_false (by omega)
  have q3 : decide ((hi : Int) < (n : Int)) = false := decide_eq_false (by omega)
  have HO1 := Lib.hid (offset_ok n 1 w (by omega) (by omega) (by omega))
  have HO2 := Lib.hid (offset_ok hi 1 w (by omega) (by omega) (by omega))
  rw [show ((n : Int) - 1).toNat = n - 1 by omega] at HO1
  rw [show ((hi : Int) - 1).toNat = hi - 1 by omega] at HO2
  have HP := Lib.hid (putAl_small w b B (n - 1) (hi - 1) h (by omega) (by omega) hn)
  clear h
  generalize n - 1 = v at *
  generalize hi - 1 = R at *
  go_enter Tryz.func79, Tryz.ntmps79
  go_wp2_with fail
  refine HO1.out.mono ?_
  rintro e w1 ⟨rfl, rfl⟩
  go_wp2_with fail
  refine HO2.out.mono ?_
  rintro e w1 ⟨rfl, rfl⟩
  go_wp2_with fail
  refine HP.out.mono ?_
  rintro e w1 ⟨rfl, h1, h2⟩
  have H1 := Lib.hid h1
  have H2 := Lib.hid h2
  clear h1 h2
  go_wp2_with fail
  go_ret
  exact ⟨rfl, H1.out, H2.out⟩
theorem putOctets_ok (w : World) (b : Nat) (B : List Bool) (v R : Nat) (h : WrAt w b B) (hv : v ≤ R) (hR : R < 2 ^ 64) (hn : B.length ≤ 100000000) :
    Calls Tryz.prog 95 #[.pointer (some ⟨b, 0, none⟩), .int .u64 v, .int .u64 R] w fun e w' =>
      e = .returned (.int .i64 0) ∧ WrAt w' b (padded (B ++ nb (cnt v - 1) (wid (cnt R - 1))) ++ bitsOf (low v (cnt v))) ∧ Only b w w' := by
  have hR8 := cnt_le R hR
  have hw7 := wid7 (c := cnt R - 1) (by omega)
  have HC1 := Lib.hid (count_ok v w (by omega))
  have HC2 := Lib.hid (count_ok R w hR)
  have HP := Lib.hid (wput_small w b B (cnt v) (cnt R) h (cnt_pos v) (cnt_mono v R hv hR) (by omega) (by omega))
  have hl1 : (B ++ nb (cnt v - 1) (wid (cnt R - 1))).length ≤ 1000000000 := by rw [List.length_append, nb_length]; omega
  have hl2 := padded_le (B ++ nb (cnt v - 1) (wid (cnt R - 1)))
  have hl3 : (low v (cnt v)).length ≤ 1000000000 := by rw [low_length]; have := cnt_le v (by omega); omega
  have HU := Lib.hid (fun w : World => unsigned_ok v w (by omega))
  generalize B ++ nb (cnt v - 1) (wid (cnt R - 1)) = B1 at *
  generalize low v (cnt v) = l at *
  generalize cnt v = c at *
  generalize cnt R = d at *
  clear h hw7
  go_enter Tryz.func95, Tryz.ntmps95
  go_wp2_with fail
  refine HC1.out.mono ?_
  rintro e w1 ⟨rfl, rfl⟩
  go_wp2_with fail
  refine HC2.out.mono ?_
  rintro e w1 ⟨rfl, rfl⟩
  go_wp2_with fail
  refine HP.out.mono ?_
  rintro e w1 ⟨rfl, h1, h2⟩
  have H1 := Lib.hid h1
  have H2 := Lib.hid h2
  clear h1 h2 HP HC1 HC2
  go_wp2_with fail
  refine (align_ok w1 b B1 H1.out (by omega)).mono ?_
  rintro e w2 ⟨rfl, h1, h2⟩
  have H3 := Lib.hid h1
  have H4 := Lib.hid (H2.out.trans h2)
  clear h1 h2 H1 H2
  go_wp2_with fail
  refine (HU.out w2).mono ?_
  rintro e w3 ⟨s, rfl, hs, hb⟩
  have hlt := H3.out.lt
  have H5 := Lib.hid (H3.out.below hb)
  have H6 := Lib.hid (H4.out.trans (Only.of_below hb))
  have HA := Lib.hid (new_apart hs hlt)
  have HS := Lib.hid hs.sl
  clear hs hb H3 H4 hlt
  go_wp2_with fail
  refine (woctets_sl w3 b _ s l H5.out HS.out HA.out (by omega) hl3).mono ?_
  rintro e w4 ⟨rfl, h1, h2⟩
  have H7 := Lib.hid h1
  have H8 := Lib.hid (H6.out.trans h2)
  clear h1 h2 H5 H6 HA HS
  go_wp2_with fail
  go_ret
  exact ⟨rfl, H7.out, H8.out⟩
theorem putAl_any (w : World) (b : Nat) (B : List Bool) (v R : Nat) (h : WrAt w b B) (hv : v ≤ R) (hR : R < 2 ^ 64) (hn : B.length ≤ 100000000) :
    Calls Tryz.prog 88 #[.pointer (some ⟨b, 0, none⟩), .int .u64 v, .int .u64 R] w fun e w' =>
      e = .returned (.int .i64 0) ∧ WrAt w' b (putW true B v R) ∧ Only b w w' := by
  by_cases h254 : R ≤ 254
  · rw [putW_small (.inr h254)]
    exact putAl_small w b B v R h hv h254 (by omega)
  have hpl := padded_le B
  have HC := Lib.hid (width_ok R w hR)
  by_cases h255 : R = 255
  · subst h255
    rw [putW_255]
    have hk : wid 255 = 8 := by decide
    rw [hk] at HC
    have HC : Go.RowKit.Hid (Calls Tryz.prog 48 #[.int .u64 255] w fun e w' => e = .returned (.int .i64 8) ∧ w = w') := HC
    have HW := Lib.hid h
    clear h hk
    go_enter Tryz.func88, Tryz.ntmps88
    go_wp2_with fail
    refine HC.out.mono ?_
    rintro e w1 ⟨rfl, rfl⟩
    go_wp2_with fail
    refine (align_ok w b B HW.out (by omega)).mono ?_
    rintro e w1 ⟨rfl, h1, h2⟩
    have H1 := Lib.hid h1
    have H2 := Lib.hid h2
    clear h1 h2 HW HC
    go_wp2_with fail
    refine (put_ok w1 b _ v 8 H1.out (by omega) (by omega) (by omega)).mono ?_
    rintro e w2 ⟨rfl, h1, h2⟩
    have H3 := Lib.hid h1
    have H4 := Lib.hid (H2.out.trans h2)
    clear h1 h2 H1 H2
    go_wp2_with fail
    go_ret
    exact ⟨rfl, H3.out, H4.out⟩
  by_cases h16 : R ≤ 65535
  · rw [putW_16 (by omega) h16]
    have q1 : decide ((65535 : Int) < (R : Int)) = false := decide_eq_false (by omega)
    have q2 : decide ((255 : Int) < (R : Int)) = true := decide_eq_true (by omega)
    generalize wid R = k at *
    have HW := Lib.hid h
    clear h
    go_enter Tryz.func88, Tryz.ntmps88
    go_wp2_with fail
    refine HC.out.mono ?_
    rintro e w1 ⟨rfl, rfl⟩
    go_wp2_with fail
    refine (align_ok w b B HW.out (by omega)).mono ?_
    rintro e w1 ⟨rfl, h1, h2⟩
    have H1 := Lib.hid h1
    have H2 := Lib.hid h2
    clear h1 h2 HW HC
    go_wp2_with fail
    refine (put_ok w1 b _ v 16 H1.out (by omega) (by omega) (by omega)).mono ?_
    rintro e w2 ⟨rfl, h1, h2⟩
    have H3 := Lib.hid h1
    have H4 := Lib.hid (H2.out.trans h2)
    clear h1 h2 H1 H2
    go_wp2_with fail
    go_ret
    exact ⟨rfl, H3.out, H4.out⟩
  · rw [putW_big (by omega)]
    have q1 : decide ((65535 : Int) < (R : Int)) = true := decide_eq_true (by omega)
    have HP := Lib.hid (putOctets_ok w b B v R h hv hR hn)
    generalize wid R = k at *
    clear h
    go_enter Tryz.func88, Tryz.ntmps88
    go_wp2_with fail
    refine HC.out.mono ?_
    rintro e w1 ⟨rfl, rfl⟩
    go_wp2_with fail
    refine HP.out.mono ?_
    rintro e w1 ⟨rfl, h1, h2⟩
    have H1 := Lib.hid h1
    have H2 := Lib.hid h2
    clear h1 h2 HP HC
    go_wp2_with fail
    go_ret
    exact ⟨rfl, H1.out, H2.out⟩
/-- whole.Put, whatever it is given -/
theorem wput_any (w : World) (b : Nat) (B : List Bool) (al : Bool) (n lo hi : Int) (h : WrAt w b B) (b1 : -9223372036854775808 ≤ n ∧ n ≤ 9223372036854775807) (b2 : -9223372036854775808 ≤ lo ∧ lo ≤ 9223372036854775807) (b3 : -9223372036854775808 ≤ hi ∧ hi ≤ 9223372036854775807) (hn : B.length ≤ 100000000) :
    Calls Tryz.prog 79 #[.pointer (some ⟨b, 0, none⟩), .bool al, .int .i64 n, .int .i64 lo, .int .i64 hi] w fun e w' =>
      e = .returned (.int .i64 (wErr n lo hi)) ∧ WrAt w' b (wBits al B n lo hi) ∧ Only b w w' := by
  by_cases hlh : hi < lo
  · have he := wErr_arg (n := n) hlh
    rw [wBits_bad (by rw [he]; decide), he]
    have q1 : decide (hi < lo) = true := decide_eq_true hlh
    have HW := Lib.hid h
    clear h he
    go_enter Tryz.func79, Tryz.ntmps79
    go_wp2_with fail
    go_ret
    exact ⟨rfl, HW.out, Only.refl _ _⟩
  have q1 : decide (hi < lo) = false := decide_eq_false hlh
  by_cases hnl : n < lo
  · have he := wErr_con (n := n) (show lo ≤ hi by omega) (.inl hnl)
    rw [wBits_bad (by rw [he]; decide), he]
    have q2 : decide (n < lo) = true := decide_eq_true hnl
    have HW := Lib.hid h
    clear h he
    go_enter Tryz.func79, Tryz.ntmps79
    go_wp2_with fail
    go_ret
    exact ⟨rfl, HW.out, Only.refl _ _⟩
  have q2 : decide (n < lo) = false := decide_eq_false hnl
  by_cases hnh : hi < n
  · have he := wErr_con (n := n) (show lo ≤ hi by omega) (.inr hnh)
    rw [wBits_bad (by rw [he]; decide), he]
    have q3 : decide (hi < n) = true := decide_eq_true hnh
    have HW := Lib.hid h
    clear h he
    go_enter Tryz.func79, Tryz.ntmps79
    go_wp2_with fail
    go_ret
    exact ⟨rfl, HW.out, Only.refl _ _⟩
  have q3 : decide (hi < n) = false := decide_eq_false hnh
  have he := wErr_ok (show lo ≤ n by omega) (show n ≤ hi by omega)
  rw [wBits_ok (by omega) (by omega), he]
  have HO1 := Lib.hid (offset_ok n lo w b2.1 (by omega) b1.2)
  have HO2 := Lib.hid (offset_ok hi lo w b2.1 (by omega) b3.2)
  have hv : (n - lo).toNat ≤ (hi - lo).toNat := by omega
  have hR : (hi - lo).toNat < 2 ^ 64 := by omega
  clear he
  generalize (n - lo).toNat = v at *
  generalize (hi - lo).toNat = R at *
  cases al with
  | true =>
    have HP := Lib.hid (putAl_any w b B v R h hv hR hn)
    clear h
    go_enter Tryz.func79, Tryz.ntmps79
    go_wp2_with fail
    refine HO1.out.mono ?_
    rintro e w1 ⟨rfl, rfl⟩
    go_wp2_with fail
    refine HO2.out.mono ?_
    rintro e w1 ⟨rfl, rfl⟩
    go_wp2_with fail
    refine HP.out.mono ?_
    rintro e w1 ⟨rfl, h1, h2⟩
    have H1 := Lib.hid h1
    have H2 := Lib.hid h2
    clear h1 h2
    go_wp2_with fail
    go_ret
    exact ⟨rfl, H1.out, H2.out⟩
  | false =>
    rw [putW_small (.inl rfl)]
    have h64 := wid_le64 R hR
    have hw := wid_lt R hR
    have HP := Lib.hid (put_ok w b B v (wid R) h h64 (by omega) (by omega))
    have HC := Lib.hid (width_ok R w hR)
    clear h
    generalize wid R = k at *
    go_enter Tryz.func79, Tryz.ntmps79
    go_wp2_with fail
    refine HO1.out.mono ?_
    rintro e w1 ⟨rfl, rfl⟩
    go_wp2_with fail
    refine HO2.out.mono ?_
    rintro e w1 ⟨rfl, rfl⟩
    go_wp2_with fail
    refine HC.out.mono ?_
    rintro e w1 ⟨rfl, rfl⟩
    go_wp2_with fail
    refine HP.out.mono ?_
    rintro e w1 ⟨rfl, h1, h2⟩
    have H1 := Lib.hid h1
    have H2 := Lib.hid h2
    clear h1 h2
    go_wp2_with fail
    go_ret
    exact ⟨rfl, H1.out, H2.out⟩
theorem wput_nil (w : World) (al : Bool) (n lo hi : Int) :
    Calls Tryz.prog 79 #[.pointer none, .bool al, .int .i64 n, .int .i64 lo, .int .i64 hi] w fun e w' => e = .returned (.int .i64 1) ∧ w = w' := by
  go_enter Tryz.func79, Tryz.ntmps79
  go_wp2_with fail
  go_ret
  exact ⟨rfl, rfl⟩
end Go.Proofs.YtbpfggkpfaobhaaGreat
