/-
  The document's answers for package octets: which number with a sign octets are.
-/
import Derived.Test.YtinggfelgcdkfaaOref2
namespace Go.Proofs.Ytinggfelgcdkfaa
open Go.RowKit
set_option linter.unusedVariables false
set_option linter.unusedSimpArgs false
set_option maxRecDepth 100000

set_option maxHeartbeats 2000000 in
theorem rfromS_one (w : World) (g o cap : Nat) (l : List Nat) (hd : DataAt w g o l) (n : Nat) (hn : l.length = n) (h0 : 0 < n) (h8 : n ≤ 8) (he : serr l = 0) (h1 : n = 1) :
    Calls Try.prog 55 #[.slice (some ⟨g, o, none⟩) n cap] w fun e w' => e = .returned (.tuple #[.int .i64 (sval l), .int .i64 (serr l)]) ∧ w = w' := by
  have hc0 := hd.cell 0 (by omega)
  rw [Nat.add_zero] at hc0
  have hb0 := hd.byte 0
  have HE := Lib.hid he
  have HD := Lib.hid hd
  have HN := Lib.hid hn
  have hz := ext_sign l hd.byte (by omega) (by omega)
  have hq1 : ((n : Int) == 0) = false := by rw [beq_eq_false_iff_ne]; omega
  have hq3 : decide ((8 : Int) < n) = false := decide_eq_false (by omega)
  have hq4 : 0 < n := by omega
  have hq2 : decide ((1 : Int) < n) = false := decide_eq_false (by omega)
  clear he hd hn h1
  generalize l.getD 0 0 = x at *
  by_cases hs : 128 ≤ x
  · have HZ := Lib.hid (hz 18446744073709551615 (by omega))
    have hq9 : decide ((128 : Int) ≤ x) = true := decide_eq_true (by omega)
    clear hz hs
    go_enter Try.func55, Try.ntmps55
    go_wp2_with fail
    go_loopw [4, 5] (fun x i wr => RelX w 18446744073709551615 l x i wr) (fun _ i _ => l.length - (intOf i).toNat)
    case atStart => exact ⟨0, Nat.zero_le _, rfl, by rw [List.take_zero, ext_nil 18446744073709551615 (by decide)]; rfl, rfl⟩
    case round =>
      obtain ⟨j, hj, rfl, rfl, rfl⟩ := hrel
      rw [HN.out] at hj
      by_cases hlt : j < n
      · have hc := HD.out.cell j (by rw [HN.out]; exact hlt)
        have hb := HD.out.byte j
        have HX2 := Lib.hid (ext_next 18446744073709551615 l j (by rw [HN.out]; exact hlt))
        have hx := ext_lt 18446744073709551615 (l.take j)
        generalize ext 18446744073709551615 (l.take j) = y at *
        generalize l.getD j 0 = b at *
        have HO := Lib.hid (or_shift y b hx hb)
        go_wp2_with fail
        go_roundw
        case rel => exact relX_next (by rw [HN.out]; exact hlt) (by rw [HX2.out]; exact HO.out)
        case measure => simp [intOf]; rw [HN.out]; omega
      · obtain rfl : j = n := by omega
        rw [← HN.out, List.take_length, HN.out]
        go_wp2_with fail
        go_ret2
        rw [HE.out, sval_good HE.out, ← HZ.out]
        exact ⟨rfl, rfl⟩
  · have HZ := Lib.hid (hz 0 (by omega))
    have hq9 : decide ((128 : Int) ≤ x) = false := decide_eq_false (by omega)
    clear hz hs
    go_enter Try.func55, Try.ntmps55
    go_wp2_with fail
    go_loopw [4, 5] (fun x i wr => RelX w 0 l x i wr) (fun _ i _ => l.length - (intOf i).toNat)
    case atStart => exact ⟨0, Nat.zero_le _, rfl, by rw [List.take_zero, ext_nil 0 (by decide)]; rfl, rfl⟩
    case round =>
      obtain ⟨j, hj, rfl, rfl, rfl⟩ := hrel
      rw [HN.out] at hj
      by_cases hlt : j < n
      · have hc := HD.out.cell j (by rw [HN.out]; exact hlt)
        have hb := HD.out.byte j
        have HX2 := Lib.hid (ext_next 0 l j (by rw [HN.out]; exact hlt))
        have hx := ext_lt 0 (l.take j)
        generalize ext 0 (l.take j) = y at *
        generalize l.getD j 0 = b at *
        have HO := Lib.hid (or_shift y b hx hb)
        go_wp2_with fail
        go_roundw
        case rel => exact relX_next (by rw [HN.out]; exact hlt) (by rw [HX2.out]; exact HO.out)
        case measure => simp [intOf]; rw [HN.out]; omega
      · obtain rfl : j = n := by omega
        rw [← HN.out, List.take_length, HN.out]
        go_wp2_with fail
        go_ret2
        rw [HE.out, sval_good HE.out, ← HZ.out]
        exact ⟨rfl, rfl⟩
set_option maxHeartbeats 2000000 in
theorem rfromS_A (w : World) (g o cap : Nat) (l : List Nat) (hd : DataAt w g o l) (n : Nat) (hn : l.length = n) (h0 : 0 < n) (h8 : n ≤ 8) (he : serr l = 0) (h2 : 2 ≤ n) (hy : l.getD 1 0 < 128) (hx : l.getD 0 0 = 255) :
    Calls Try.prog 55 #[.slice (some ⟨g, o, none⟩) n cap] w fun e w' => e = .returned (.tuple #[.int .i64 (sval l), .int .i64 (serr l)]) ∧ w = w' := by
  have hc0 := hd.cell 0 (by omega)
  rw [Nat.add_zero] at hc0
  have hb0 := hd.byte 0
  have HE := Lib.hid he
  have HD := Lib.hid hd
  have HN := Lib.hid hn
  have hz := ext_sign l hd.byte (by omega) (by omega)
  have hq1 : ((n : Int) == 0) = false := by rw [beq_eq_false_iff_ne]; omega
  have hq3 : decide ((8 : Int) < n) = false := decide_eq_false (by omega)
  have hq4 : 0 < n := by omega
  have hc1 := hd.cell 1 (by omega)
  have hb1 := hd.byte 1
  have hq2 : (1 : Int) < n := by omega
  clear he hd hn h2
  generalize l.getD 0 0 = x at *
  generalize l.getD 1 0 = y at *
  subst hx
  have hq5 : decide ((y : Int) < 128) = true := decide_eq_true (by omega)
  have hq6 : decide ((128 : Int) ≤ y) = false := decide_eq_false (by omega)
  have HZ := Lib.hid (hz 18446744073709551615 (by omega))
  clear hz
  go_enter Try.func55, Try.ntmps55
  go_wp2_with fail
  go_loopw [4, 5] (fun x i wr => RelX w 18446744073709551615 l x i wr) (fun _ i _ => l.length - (intOf i).toNat)
  case atStart => exact ⟨0, Nat.zero_le _, rfl, by rw [List.take_zero, ext_nil 18446744073709551615 (by decide)]; rfl, rfl⟩
  case round =>
    obtain ⟨j, hj, rfl, rfl, rfl⟩ := hrel
    rw [HN.out] at hj
    by_cases hlt : j < n
    · have hc := HD.out.cell j (by rw [HN.out]; exact hlt)
      have hb := HD.out.byte j
      have HX2 := Lib.hid (ext_next 18446744073709551615 l j (by rw [HN.out]; exact hlt))
      have hx := ext_lt 18446744073709551615 (l.take j)
      generalize ext 18446744073709551615 (l.take j) = y at *
      generalize l.getD j 0 = b at *
      have HO := Lib.hid (or_shift y b hx hb)
      go_wp2_with fail
      go_roundw
      case rel => exact relX_next (by rw [HN.out]; exact hlt) (by rw [HX2.out]; exact HO.out)
      case measure => simp [intOf]; rw [HN.out]; omega
    · obtain rfl : j = n := by omega
      rw [← HN.out, List.take_length, HN.out]
      go_wp2_with fail
      go_ret2
      rw [HE.out, sval_good HE.out, ← HZ.out]
      exact ⟨rfl, rfl⟩
set_option maxHeartbeats 2000000 in
theorem rfromS_B (w : World) (g o cap : Nat) (l : List Nat) (hd : DataAt w g o l) (n : Nat) (hn : l.length = n) (h0 : 0 < n) (h8 : n ≤ 8) (he : serr l = 0) (h2 : 2 ≤ n) (hy : l.getD 1 0 < 128) (hx : l.getD 0 0 ≠ 0) (hx2 : l.getD 0 0 ≠ 255) :
    Calls Try.prog 55 #[.slice (some ⟨g, o, none⟩) n cap] w fun e w' => e = .returned (.tuple #[.int .i64 (sval l), .int .i64 (serr l)]) ∧ w = w' := by
  have hc0 := hd.cell 0 (by omega)
  rw [Nat.add_zero] at hc0
  have hb0 := hd.byte 0
  have HE := Lib.hid he
  have HD := Lib.hid hd
  have HN := Lib.hid hn
  have hz := ext_sign l hd.byte (by omega) (by omega)
  have hq1 : ((n : Int) == 0) = false := by rw [beq_eq_false_iff_ne]; omega
  have hq3 : decide ((8 : Int) < n) = false := decide_eq_false (by omega)
  have hq4 : 0 < n := by omega
  have hc1 := hd.cell 1 (by omega)
  have hb1 := hd.byte 1
  have hq2 : (1 : Int) < n := by omega
  clear he hd hn h2
  generalize l.getD 0 0 = x at *
  generalize l.getD 1 0 = y at *
  have hq5 : decide ((y : Int) < 128) = true := decide_eq_true (by omega)
  have hq6 : decide ((128 : Int) ≤ y) = false := decide_eq_false (by omega)
  have hq7 : ((x : Int) == 0) = false := by rw [beq_eq_false_iff_ne]; omega
  have hq8 : ((x : Int) == 255) = false := by rw [beq_eq_false_iff_ne]; omega
  by_cases hs : 128 ≤ x
  · have HZ := Lib.hid (hz 18446744073709551615 (by omega))
    have hq9 : decide ((128 : Int) ≤ x) = true := decide_eq_true (by omega)
    clear hz hs
    go_enter Try.func55, Try.ntmps55
    go_wp2_with fail
    go_loopw [4, 5] (fun x i wr => RelX w 18446744073709551615 l x i wr) (fun _ i _ => l.length - (intOf i).toNat)
    case atStart => exact ⟨0, Nat.zero_le _, rfl, by rw [List.take_zero, ext_nil 18446744073709551615 (by decide)]; rfl, rfl⟩
    case round =>
      obtain ⟨j, hj, rfl, rfl, rfl⟩ := hrel
      rw [HN.out] at hj
      by_cases hlt : j < n
      · have hc := HD.out.cell j (by rw [HN.out]; exact hlt)
        have hb := HD.out.byte j
        have HX2 := Lib.hid (ext_next 18446744073709551615 l j (by rw [HN.out]; exact hlt))
        have hx := ext_lt 18446744073709551615 (l.take j)
        generalize ext 18446744073709551615 (l.take j) = y at *
        generalize l.getD j 0 = b at *
        have HO := Lib.hid (or_shift y b hx hb)
        go_wp2_with fail
        go_roundw
        case rel => exact relX_next (by rw [HN.out]; exact hlt) (by rw [HX2.out]; exact HO.out)
        case measure => simp [intOf]; rw [HN.out]; omega
      · obtain rfl : j = n := by omega
        rw [← HN.out, List.take_length, HN.out]
        go_wp2_with fail
        go_ret2
        rw [HE.out, sval_good HE.out, ← HZ.out]
        exact ⟨rfl, rfl⟩
  · have HZ := Lib.hid (hz 0 (by omega))
    have hq9 : decide ((128 : Int) ≤ x) = false := decide_eq_false (by omega)
    clear hz hs
    go_enter Try.func55, Try.ntmps55
    go_wp2_with fail
    go_loopw [4, 5] (fun x i wr => RelX w 0 l x i wr) (fun _ i _ => l.length - (intOf i).toNat)
    case atStart => exact ⟨0, Nat.zero_le _, rfl, by rw [List.take_zero, ext_nil 0 (by decide)]; rfl, rfl⟩
    case round =>
      obtain ⟨j, hj, rfl, rfl, rfl⟩ := hrel
      rw [HN.out] at hj
      by_cases hlt : j < n
      · have hc := HD.out.cell j (by rw [HN.out]; exact hlt)
        have hb := HD.out.byte j
        have HX2 := Lib.hid (ext_next 0 l j (by rw [HN.out]; exact hlt))
        have hx := ext_lt 0 (l.take j)
        generalize ext 0 (l.take j) = y at *
        generalize l.getD j 0 = b at *
        have HO := Lib.hid (or_shift y b hx hb)
        go_wp2_with fail
        go_roundw
        case rel => exact relX_next (by rw [HN.out]; exact hlt) (by rw [HX2.out]; exact HO.out)
        case measure => simp [intOf]; rw [HN.out]; omega
      · obtain rfl : j = n := by omega
        rw [← HN.out, List.take_length, HN.out]
        go_wp2_with fail
        go_ret2
        rw [HE.out, sval_good HE.out, ← HZ.out]
        exact ⟨rfl, rfl⟩
set_option maxHeartbeats 2000000 in
theorem rfromS_C (w : World) (g o cap : Nat) (l : List Nat) (hd : DataAt w g o l) (n : Nat) (hn : l.length = n) (h0 : 0 < n) (h8 : n ≤ 8) (he : serr l = 0) (h2 : 2 ≤ n) (hy : 128 ≤ l.getD 1 0) (hx : l.getD 0 0 = 0) :
    Calls Try.prog 55 #[.slice (some ⟨g, o, none⟩) n cap] w fun e w' => e = .returned (.tuple #[.int .i64 (sval l), .int .i64 (serr l)]) ∧ w = w' := by
  have hc0 := hd.cell 0 (by omega)
  rw [Nat.add_zero] at hc0
  have hb0 := hd.byte 0
  have HE := Lib.hid he
  have HD := Lib.hid hd
  have HN := Lib.hid hn
  have hz := ext_sign l hd.byte (by omega) (by omega)
  have hq1 : ((n : Int) == 0) = false := by rw [beq_eq_false_iff_ne]; omega
  have hq3 : decide ((8 : Int) < n) = false := decide_eq_false (by omega)
  have hq4 : 0 < n := by omega
  have hc1 := hd.cell 1 (by omega)
  have hb1 := hd.byte 1
  have hq2 : (1 : Int) < n := by omega
  clear he hd hn h2
  generalize l.getD 0 0 = x at *
  generalize l.getD 1 0 = y at *
  subst hx
  have hq5 : decide ((y : Int) < 128) = false := decide_eq_false (by omega)
  have hq6 : decide ((128 : Int) ≤ y) = true := decide_eq_true (by omega)
  have HZ := Lib.hid (hz 0 (by omega))
  clear hz
  go_enter Try.func55, Try.ntmps55
  go_wp2_with fail
  go_loopw [4, 5] (fun x i wr => RelX w 0 l x i wr) (fun _ i _ => l.length - (intOf i).toNat)
  case atStart => exact ⟨0, Nat.zero_le _, rfl, by rw [List.take_zero, ext_nil 0 (by decide)]; rfl, rfl⟩
  case round =>
    obtain ⟨j, hj, rfl, rfl, rfl⟩ := hrel
    rw [HN.out] at hj
    by_cases hlt : j < n
    · have hc := HD.out.cell j (by rw [HN.out]; exact hlt)
      have hb := HD.out.byte j
      have HX2 := Lib.hid (ext_next 0 l j (by rw [HN.out]; exact hlt))
      have hx := ext_lt 0 (l.take j)
      generalize ext 0 (l.take j) = y at *
      generalize l.getD j 0 = b at *
      have HO := Lib.hid (or_shift y b hx hb)
      go_wp2_with fail
      go_roundw
      case rel => exact relX_next (by rw [HN.out]; exact hlt) (by rw [HX2.out]; exact HO.out)
      case measure => simp [intOf]; rw [HN.out]; omega
    · obtain rfl : j = n := by omega
      rw [← HN.out, List.take_length, HN.out]
      go_wp2_with fail
      go_ret2
      rw [HE.out, sval_good HE.out, ← HZ.out]
      exact ⟨rfl, rfl⟩
set_option maxHeartbeats 2000000 in
theorem rfromS_D (w : World) (g o cap : Nat) (l : List Nat) (hd : DataAt w g o l) (n : Nat) (hn : l.length = n) (h0 : 0 < n) (h8 : n ≤ 8) (he : serr l = 0) (h2 : 2 ≤ n) (hy : 128 ≤ l.getD 1 0) (hx : l.getD 0 0 ≠ 0) (hx2 : l.getD 0 0 ≠ 255) :
    Calls Try.prog 55 #[.slice (some ⟨g, o, none⟩) n cap] w fun e w' => e = .returned (.tuple #[.int .i64 (sval l), .int .i64 (serr l)]) ∧ w = w' := by
  have hc0 := hd.cell 0 (by omega)
  rw [Nat.add_zero] at hc0
  have hb0 := hd.byte 0
  have HE := Lib.hid he
  have HD := Lib.hid hd
  have HN := Lib.hid hn
  have hz := ext_sign l hd.byte (by omega) (by omega)
  have hq1 : ((n : Int) == 0) = false := by rw [beq_eq_false_iff_ne]; omega
  have hq3 : decide ((8 : Int) < n) = false := decide_eq_false (by omega)
  have hq4 : 0 < n := by omega
  have hc1 := hd.cell 1 (by omega)
  have hb1 := hd.byte 1
  have hq2 : (1 : Int) < n := by omega
  clear he hd hn h2
  generalize l.getD 0 0 = x at *
  generalize l.getD 1 0 = y at *
  have hq5 : decide ((y : Int) < 128) = false := decide_eq_false (by omega)
  have hq6 : decide ((128 : Int) ≤ y) = true := decide_eq_true (by omega)
  have hq7 : ((x : Int) == 0) = false := by rw [beq_eq_false_iff_ne]; omega
  have hq8 : ((x : Int) == 255) = false := by rw [beq_eq_false_iff_ne]; omega
  by_cases hs : 128 ≤ x
  · have HZ := Lib.hid (hz 18446744073709551615 (by omega))
    have hq9 : decide ((128 : Int) ≤ x) = true := decide_eq_true (by omega)
    clear hz hs
    go_enter Try.func55, Try.ntmps55
    go_wp2_with fail
    go_loopw [4, 5] (fun x i wr => RelX w 18446744073709551615 l x i wr) (fun _ i _ => l.length - (intOf i).toNat)
    case atStart => exact ⟨0, Nat.zero_le _, rfl, by rw [List.take_zero, ext_nil 18446744073709551615 (by decide)]; rfl, rfl⟩
    case round =>
      obtain ⟨j, hj, rfl, rfl, rfl⟩ := hrel
      rw [HN.out] at hj
      by_cases hlt : j < n
      · have hc := HD.out.cell j (by rw [HN.out]; exact hlt)
        have hb := HD.out.byte j
        have HX2 := Lib.hid (ext_next 18446744073709551615 l j (by rw [HN.out]; exact hlt))
        have hx := ext_lt 18446744073709551615 (l.take j)
        generalize ext 18446744073709551615 (l.take j) = y at *
        generalize l.getD j 0 = b at *
        have HO := Lib.hid (or_shift y b hx hb)
        go_wp2_with fail
        go_roundw
        case rel => exact relX_next (by rw [HN.out]; exact hlt) (by rw [HX2.out]; exact HO.out)
        case measure => simp [intOf]; rw [HN.out]; omega
      · obtain rfl : j = n := by omega
        rw [← HN.out, List.take_length, HN.out]
        go_wp2_with fail
        go_ret2
        rw [HE.out, sval_good HE.out, ← HZ.out]
        exact ⟨rfl, rfl⟩
  · have HZ := Lib.hid (hz 0 (by omega))
    have hq9 : decide ((128 : Int) ≤ x) = false := decide_eq_false (by omega)
    clear hz hs
    go_enter Try.func55, Try.ntmps55
    go_wp2_with fail
    go_loopw [4, 5] (fun x i wr => RelX w 0 l x i wr) (fun _ i _ => l.length - (intOf i).toNat)
    case atStart => exact ⟨0, Nat.zero_le _, rfl, by rw [List.take_zero, ext_nil 0 (by decide)]; rfl, rfl⟩
    case round =>
      obtain ⟨j, hj, rfl, rfl, rfl⟩ := hrel
      rw [HN.out] at hj
      by_cases hlt : j < n
      · have hc := HD.out.cell j (by rw [HN.out]; exact hlt)
        have hb := HD.out.byte j
        have HX2 := Lib.hid (ext_next 0 l j (by rw [HN.out]; exact hlt))
        have hx := ext_lt 0 (l.take j)
        generalize ext 0 (l.take j) = y at *
        generalize l.getD j 0 = b at *
        have HO := Lib.hid (or_shift y b hx hb)
        go_wp2_with fail
        go_roundw
        case rel => exact relX_next (by rw [HN.out]; exact hlt) (by rw [HX2.out]; exact HO.out)
        case measure => simp [intOf]; rw [HN.out]; omega
      · obtain rfl : j = n := by omega
        rw [← HN.out, List.take_length, HN.out]
        go_wp2_with fail
        go_ret2
        rw [HE.out, sval_good HE.out, ← HZ.out]
        exact ⟨rfl, rfl⟩
theorem rfromS_bad3 (w : World) (g o cap : Nat) (l : List Nat) (hd : DataAt w g o l) (n : Nat) (hn : l.length = n) (h2 : 2 ≤ n) (hl : n ≤ 9223372036854775807) (hz : l.getD 0 0 = sgn (l.getD 1 0)) :
    Calls Try.prog 55 #[.slice (some ⟨g, o, none⟩) n cap] w fun e w' => e = .returned (.tuple #[.int .i64 0, .int .i64 3]) ∧ w = w' := by
  have hc0 := hd.cell 0 (by omega)
  rw [Nat.add_zero] at hc0
  have hb0 := hd.byte 0
  have hc1 := hd.cell 1 (by omega)
  have hb1 := hd.byte 1
  have hq1 : ((n : Int) == 0) = false := by rw [beq_eq_false_iff_ne]; omega
  have hq2 : (1 : Int) < n := by omega
  have hq4 : 0 < n := by omega
  clear hd hn h2
  generalize l.getD 0 0 = x at *
  generalize l.getD 1 0 = y at *
  unfold sgn at hz
  by_cases hy : 128 ≤ y
  · rw [if_pos hy] at hz
    subst hz
    have hq5 : decide ((y : Int) < 128) = false := decide_eq_false (by omega)
    have hq6 : decide ((128 : Int) ≤ y) = true := decide_eq_true (by omega)
    go_enter Try.func55, Try.ntmps55
    go_wp2_with fail
    go_ret2
    exact ⟨rfl, rfl⟩
  · rw [if_neg hy] at hz
    subst hz
    have hq5 : decide ((y : Int) < 128) = true := decide_eq_true (by omega)
    have hq6 : decide ((128 : Int) ≤ y) = false := decide_eq_false (by omega)
    go_enter Try.func55, Try.ntmps55
    go_wp2_with fail
    go_ret2
    exact ⟨rfl, rfl⟩
theorem rfromS_bad11 (w : World) (g o cap : Nat) (l : List Nat) (hd : DataAt w g o l) (n : Nat) (hn : l.length = n) (h2 : 8 < n) (hl : n ≤ 9223372036854775807) (hz : l.getD 0 0 ≠ sgn (l.getD 1 0)) :
    Calls Try.prog 55 #[.slice (some ⟨g, o, none⟩) n cap] w fun e w' => e = .returned (.tuple #[.int .i64 0, .int .i64 11]) ∧ w = w' := by
  have hc0 := hd.cell 0 (by omega)
  rw [Nat.add_zero] at hc0
  have hb0 := hd.byte 0
  have hc1 := hd.cell 1 (by omega)
  have hb1 := hd.byte 1
  have hq1 : ((n : Int) == 0) = false := by rw [beq_eq_false_iff_ne]; omega
  have hq2 : (1 : Int) < n := by omega
  have hq3 : decide ((8 : Int) < n) = true := decide_eq_true (by omega)
  have hq4 : 0 < n := by omega
  clear hd hn h2
  generalize l.getD 0 0 = x at *
  generalize l.getD 1 0 = y at *
  unfold sgn at hz
  by_cases hy : 128 ≤ y
  · rw [if_pos hy] at hz
    have hq5 : decide ((y : Int) < 128) = false := decide_eq_false (by omega)
    have hq6 : decide ((128 : Int) ≤ y) = true := decide_eq_true (by omega)
    have hq8 : ((x : Int) == 255) = false := by rw [beq_eq_false_iff_ne]; omega
    by_cases hx : x = 0
    · subst hx
      go_enter Try.func55, Try.ntmps55
      go_wp2_with fail
      go_ret2
      exact ⟨rfl, rfl⟩
    · have hq7 : ((x : Int) == 0) = false := by rw [beq_eq_false_iff_ne]; omega
      go_enter Try.func55, Try.ntmps55
      go_wp2_with fail
      go_ret2
      exact ⟨rfl, rfl⟩
  · rw [if_neg hy] at hz
    have hq5 : decide ((y : Int) < 128) = true := decide_eq_true (by omega)
    have hq6 : decide ((128 : Int) ≤ y) = false := decide_eq_false (by omega)
    have hq7 : ((x : Int) == 0) = false := by rw [beq_eq_false_iff_ne]; omega
    by_cases hx : x = 255
    · subst hx
      go_enter Try.func55, Try.ntmps55
      go_wp2_with fail
      go_ret2
      exact ⟨rfl, rfl⟩
    · have hq8 : ((x : Int) == 255) = false := by rw [beq_eq_false_iff_ne]; omega
      go_enter Try.func55, Try.ntmps55
      go_wp2_with fail
      go_ret2
      exact ⟨rfl, rfl⟩
theorem rfromS_none (w : World) (a : Option Addr) (cap : Nat) :
    Calls Try.prog 55 #[.slice a 0 cap] w fun e w' => e = .returned (.tuple #[.int .i64 (sval []), .int .i64 (serr [])]) ∧ w = w' := by
  go_enter Try.func55, Try.ntmps55
  go_wp2_with fail
  go_ret2
  exact ⟨rfl, rfl⟩
theorem rfromS_ok (w : World) (s : Value) (l : List Nat) (h : SlAt w s l) (hl : l.length ≤ 9223372036854775807) :
    Calls Try.prog 55 #[s] w fun e w' => e = .returned (.tuple #[.int .i64 (sval l), .int .i64 (serr l)]) ∧ w = w' := by
  rcases h with ⟨g, o, cap, rfl, hd⟩ | ⟨rfl, a, cap, rfl⟩
  · by_cases h0 : l = []
    · subst h0
      exact rfromS_none w _ _
    · have h1 : 0 < l.length := by cases l <;> simp_all
      by_cases h2 : l.length = 1
      · exact rfromS_one w g o cap l hd _ rfl h1 (by omega) (by unfold serr; rw [if_neg (by simp [h0, h2]), if_neg (by omega)]) h2
      · by_cases hz : l.getD 0 0 = sgn (l.getD 1 0)
        · have h3 : serr l = 3 := by unfold serr; rw [if_pos (.inr ⟨h2, hz⟩)]
          rw [sval_bad (by rw [h3]; decide), h3]
          exact rfromS_bad3 w g o cap l hd _ rfl (by omega) hl hz
        · have hcond : ¬ (l = [] ∨ (l.length ≠ 1 ∧ l.getD 0 0 = sgn (l.getD 1 0))) := fun h => h.elim h0 fun h => hz h.2
          by_cases h8 : 8 < l.length
          · have h3 : serr l = 11 := by unfold serr; rw [if_neg hcond, if_pos h8]
            rw [sval_bad (by rw [h3]; decide), h3]
            exact rfromS_bad11 w g o cap l hd _ rfl h8 hl hz
          · have h3 : serr l = 0 := by unfold serr; rw [if_neg hcond, if_neg h8]
            unfold sgn at hz
            by_cases hy : 128 ≤ l.getD 1 0
            · rw [if_pos hy] at hz
              by_cases hx : l.getD 0 0 = 0
              · exact rfromS_C w g o cap l hd _ rfl h1 (by omega) h3 (by omega) hy hx
              · exact rfromS_D w g o cap l hd _ rfl h1 (by omega) h3 (by omega) hy hx hz
            · rw [if_neg hy] at hz
              by_cases hx : l.getD 0 0 = 255
              · exact rfromS_A w g o cap l hd _ rfl h1 (by omega) h3 (by omega) (by omega) hx
              · exact rfromS_B w g o cap l hd _ rfl h1 (by omega) h3 (by omega) (by omega) hz hx
  · exact rfromS_none w _ _
end Go.Proofs.Ytinggfelgcdkfaa
