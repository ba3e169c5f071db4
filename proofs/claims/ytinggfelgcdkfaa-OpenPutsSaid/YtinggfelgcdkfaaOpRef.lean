/-
  The document's answer for package open: what is written.
-/
import Derived.Test.YtinggfelgcdkfaaOpMem
import Derived.Test.YtinggfelgcdkfaaOpN
import Derived.Test.YtinggfelgcdkfaaOpCut
import Derived.Test.YtinggfelgcdkfaaLRef
import Derived.Test.YtinggfelgcdkfaaOref
import Derived.Test.YtinggfelgcdkfaaRef2
namespace Go.Proofs.Ytinggfelgcdkfaa
open Go.RowKit
set_option linter.unusedVariables false
set_option linter.unusedSimpArgs false
set_option maxRecDepth 100000

theorem rcounted_ok (w : World) (B : List Bool) (al : Bool) (s : Value) (l : List Nat) (hs : SlAt w s l) (hl : l.length < 128) (hB : B.length ≤ 900000) :
    Calls Try.prog 37 #[.string (bchars B), .bool al, s] w fun e w' => e = .returned (.string (bchars (itemB al B l))) ∧ Below w.heap.size w w' := by
  obtain ⟨a, n, cap, rfl, hn⟩ : ∃ a n cap, s = .slice a n cap ∧ l.length = n := by
    rcases hs with ⟨g, o, cap, rfl, _⟩ | ⟨rfl, a, cap, rfl⟩
    · exact ⟨_, _, _, rfl, rfl⟩
    · exact ⟨_, _, _, rfl, rfl⟩
  have hp := rlput_any w B al n 0 (-1) (by omega) (by omega) (by decide) (by decide)
  obtain ⟨p1, p2, p3, p4⟩ := lPut_open n (by omega) al B
  rw [p1, p2, p3, p4] at hp
  have hle := putF_le al B n
  have HP := Lib.hid hp
  have e : putF al B n ++ bitsOf l = itemB al B l := by unfold itemB; rw [hn]
  have HO := Lib.hid (fun (w' : World) (hb : Below w.heap.size w w') => rocts_sl w' (putF al B n) _ l (hs.below hb) (by omega) (by omega))
  rw [e] at HO
  clear hs hp p1 p2 p3 p4 hle e hn
  generalize itemB al B l = B2 at *
  generalize putF al B n = B1 at *
  go_enter Try.func37, Try.ntmps37
  go_wp2_with fail
  refine HP.out.mono ?_
  rintro e' w1 ⟨rfl, h1⟩
  have H1 := Lib.hid h1
  clear h1
  go_wp2_with fail
  refine (HO.out w1 H1.out).mono ?_
  rintro e' w2 ⟨rfl, h1⟩
  have H2 := Lib.hid (H1.out.trans (h1.mono H1.out.size))
  clear h1 HO
  go_wp2_with fail
  go_ret
  exact ⟨rfl, H2.out⟩
theorem rput_semi (w : World) (B : List Bool) (al : Bool) (n lo : Int) (b1 : -9223372036854775808 ≤ lo) (b2 : lo ≤ n) (b3 : n ≤ 9223372036854775807) (hB : B.length ≤ 900000) :
    Calls Try.prog 13 #[.string (bchars B), .bool al, .int .i64 n, .int .i64 lo] w fun e w' => e = .returned (.tuple #[.string (bchars (itemB al B (low (n - lo).toNat (cnt (n - lo).toNat)))), .int .i64 0]) ∧ Below w.heap.size w w' := by
  have hv : (n - lo).toNat < 2 ^ 64 := by omega
  have hc8 := cnt_le _ hv
  have hsub := roff_num n lo b1 b2 b3
  have q1 : decide (n < lo) = false := decide_eq_false (by omega)
  generalize (n - lo).toNat = v at *
  have HU := Lib.hid (runsigned_ok v w hv)
  have HP := Lib.hid (fun (s : Value) (w' : World) (hN : New w w' s (low v (cnt v))) => rcounted_ok w' B al s (low v (cnt v)) hN.sl (by rw [low_length]; omega) (by omega))
  generalize itemB al B (low v (cnt v)) = B2 at *
  generalize low v (cnt v) = l at *
  clear hv hc8 b1 b2 b3
  go_enter Try.func13, Try.ntmps13
  go_wp2_with fail
  refine HU.out.mono ?_
  rintro e' w1 ⟨s, rfl, h1, h2⟩
  have H1 := Lib.hid h1
  have H2 := Lib.hid h2
  clear h1 h2
  go_wp2_with fail
  refine (HP.out s w1 H1.out).mono ?_
  rintro e' w2 ⟨rfl, h1⟩
  have H4 := Lib.hid (H2.out.trans (h1.mono H2.out.size))
  clear h1 HP
  go_wp2_with fail
  go_ret2
  exact ⟨rfl, H4.out⟩
theorem rput_semi_low (w : World) (s : ByteArray) (al : Bool) (n lo : Int) (hl : n < lo) :
    Calls Try.prog 13 #[.string s, .bool al, .int .i64 n, .int .i64 lo] w fun e w' => e = .returned (.tuple #[.string s, .int .i64 4]) ∧ w = w' := by
  have q1 : decide (n < lo) = true := decide_eq_true (by omega)
  clear hl
  go_enter Try.func13, Try.ntmps13
  go_wp2_with fail
  go_ret2
  exact ⟨rfl, rfl⟩
theorem rput_any_int (w : World) (B : List Bool) (al : Bool) (n : Int) (b1 : -9223372036854775808 ≤ n) (b3 : n ≤ 9223372036854775807) (hB : B.length ≤ 900000) :
    Calls Try.prog 19 #[.string (bchars B), .bool al, .int .i64 n] w fun e w' => e = .returned (.string (bchars (itemB al B (low (u64n n) (scnt n))))) ∧ Below w.heap.size w w' := by
  have hmg := mag_lt n b1 b3
  have hc8 := scnt_le n hmg
  have HU := Lib.hid (rsigned_ok n w hmg b1 b3)
  have HP := Lib.hid (fun (s : Value) (w' : World) (hN : New w w' s (low (u64n n) (scnt n))) => rcounted_ok w' B al s (low (u64n n) (scnt n)) hN.sl (by rw [low_length]; omega) (by omega))
  generalize itemB al B (low (u64n n) (scnt n)) = B2 at *
  generalize low (u64n n) (scnt n) = l at *
  clear hmg hc8 b1 b3
  go_enter Try.func19, Try.ntmps19
  go_wp2_with fail
  refine HU.out.mono ?_
  rintro e' w1 ⟨s, rfl, h1, h2⟩
  have H1 := Lib.hid h1
  have H2 := Lib.hid h2
  clear h1 h2
  go_wp2_with fail
  refine (HP.out s w1 H1.out).mono ?_
  rintro e' w2 ⟨rfl, h1⟩
  have H4 := Lib.hid (H2.out.trans (h1.mono H2.out.size))
  clear h1 HP
  go_wp2_with fail
  go_ret
  exact ⟨rfl, H4.out⟩
theorem rput_open_large (w : World) (s : ByteArray) (al : Bool) (a : Option Addr) (m cap : Nat) (hl : 1048576 < m) :
    Calls Try.prog 21 #[.string s, .bool al, .slice a m cap] w fun e w' => e = .returned (.tuple #[.string s, .int .i64 11]) ∧ w = w' := by
  have q1 : decide ((1048576 : Int) < (m : Int)) = true := decide_eq_true (by omega)
  clear hl
  go_enter Try.func21, Try.ntmps21
  go_wp2_with fail
  go_ret2
  exact ⟨rfl, rfl⟩
/-- octets that make one fragment, the last -/
theorem rput_open (w : World) (b : Nat) (B : List Bool) (al : Bool) (s : Value) (l : List Nat) (hs : Sb w b s l) (hl : l.length < 16384) (hB : B.length ≤ 500000) :
    Calls Try.prog 21 #[.string (bchars B), .bool al, s] w fun e w' => e = .returned (.tuple #[.string (bchars (opB al B l)), .int .i64 0]) ∧ Below w.heap.size w w' := by
  obtain ⟨a, n, cap, rfl⟩ := hs.shape
  have hm := hs.len
  have hp := rlput_any w B al n 0 (-1) (by omega) (by omega) (by decide) (by decide)
  obtain ⟨p1, p2, p3, p4⟩ := lPut_nat n al B
  rw [p1, p2, p3, p4, lfst_small (by omega), decide_eq_false (by omega)] at hp
  have hle := putF_le al B n
  have HP := Lib.hid hp
  have e : putF al B n ++ bitsOf l = opB al B l := by rw [opB_last hl]; unfold itemB; rw [hm.1]
  have HO := Lib.hid (fun (w' : World) (hb : Below w.heap.size w w') => rocts_sl w' (putF al B n) (.slice a n cap) l (hs.sl.below hb) (by omega) (by omega))
  rw [e] at HO
  have q1 : decide ((1048576 : Int) < (n : Int)) = false := decide_eq_false (by omega)
  have q2 : (n : Int) ≤ (cap : Int) := by omega
  have q3 : (n : Int) ≤ (n : Int) := by omega
  clear hs hp p1 p2 p3 p4 hle e
  generalize opB al B l = B2 at *
  generalize putF al B n = B1 at *
  go_enter Try.func21, Try.ntmps21
  go_wp2_with fail
  go_loopw [0, 2] (fun sv bv wr => sv = .string (bchars B) ∧ bv = .slice a n cap ∧ wr = w) (fun _ _ _ => 0)
  case atStart => exact ⟨rfl, rfl, rfl⟩
  case round =>
    obtain ⟨rfl, rfl, rfl⟩ := hrel
    go_wp2_with fail
    refine HP.out.mono ?_
    rintro e' w1 ⟨rfl, h1⟩
    have H1 := Lib.hid h1
    clear h1
    go_wp2_with fail
    refine (HO.out w1 H1.out).mono ?_
    rintro e' w2 ⟨rfl, h1⟩
    have H2 := Lib.hid (H1.out.trans (h1.mono H1.out.size))
    clear h1 HO
    go_wp2_with fail
    all_goals go_ret2
    all_goals exact ⟨rfl, H2.out⟩
end Go.Proofs.Ytinggfelgcdkfaa
