/-
  The document's answers for package octets: which number octets are.
-/
import Derived.Test.YtbpfggkpfaobhaaGreatOref
namespace Go.Proofs.YtbpfggkpfaobhaaGreat
open Go.RowKit
set_option linter.unusedVariables false
set_option linter.unusedSimpArgs false
set_option maxRecDepth 100000

theorem add_shift (x b : Nat) : ((x : Int) * 256 % 18446744073709551616 + b) % 18446744073709551616 = (((256 * x + b) % 2 ^ 64 : Nat) : Int) := by omega
set_option maxHeartbeats 1000000 in
theorem rfromU_one (w : World) (g o cap : Nat) (l : List Nat) (hd : DataAt w g o l) (n : Nat) (hn : l.length = n) (h0 : 0 < n) (h8 : n ≤ 8) (he : uerr l = 0) (h1 : n = 1) :
    Calls Tryz.prog 94 #[.slice (some ⟨g, o, none⟩) n cap] w fun e w' => e = .returned (.tuple #[.int .u64 (uval l : Nat), .int .i64 (uerr l)]) ∧ w = w' := by
  have hc0 := hd.cell 0 (by omega)
  rw [Nat.add_zero] at hc0
  have hb0 := hd.byte 0
  have HE := Lib.hid he
  have HD := Lib.hid hd
  have HN := Lib.hid hn
  have HZ := Lib.hid (ext_zero l hd.byte (by omega))
  clear he hd hn
  have hq1 : ((n : Int) == 0) = false := by rw [beq_eq_false_iff_ne]; omega
  have hq2 : decide ((1 : Int) < n) = false := decide_eq_false (by omega)
  have hq3 : decide ((8 : Int) < n) = false := decide_eq_false (by omega)
  have hq4 : decide ((0 : Int) < n) = true := decide_eq_true (by omega)
  clear hc0 hb0 h1
  go_enter Tryz.func94, Tryz.ntmps94
  go_wp2_with fail
  go_loopw [4, 5] (fun x i wr => RelX w 0 l x i wr) (fun _ i _ => l.length - (intOf i).toNat)
  case atStart => exact ⟨0, Nat.zero_le _, rfl, by rw [List.take_zero, ext_nil 0 (by decide)]; rfl, rfl⟩
  case round =>
    obtain ⟨j, hj, rfl, rfl, rfl⟩ := hrel
    rw [HN.out] at hj
    by_cases hlt : j < n
    · have hc := HD.out.cell j (by rw [HN.out]; exact hlt)
      have hb := HD.out.byte j
      have HX2 := Lib.hid (ext_next 0 l j (by rw [HN.out]; exact hlt))
      have hx := ext_lt 0 (l.take j)
      generalize ext 0 (l.take j) = y at *
      generalize l.getD j 0 = b at *
      have HO := Lib.hid (add_shift y b)
      go_wp2_with fail
      go_roundw
      case rel => exact relX_next (by rw [HN.out]; exact hlt) (by rw [HX2.out]; exact HO.out)
      case measure => simp [intOf]; rw [HN.out]; omega
    · obtain rfl : j = n := by omega
      rw [← HN.out, List.take_length, HN.out]
      go_wp2_with fail
      go_ret2
      rw [HE.out, uval_good HE.out, HZ.out]
      exact ⟨rfl, rfl⟩
set_option maxHeartbeats 1000000 in
theorem rfromU_many (w : World) (g o cap : Nat) (l : List Nat) (hd : DataAt w g o l) (n : Nat) (hn : l.length = n) (h0 : 0 < n) (h8 : n ≤ 8) (he : uerr l = 0) (h2 : 2 ≤ n) (hz : l.getD 0 0 ≠ 0) :
    Calls Tryz.prog 94 #[.slice (some ⟨g, o, none⟩) n cap] w fun e w' => e = .returned (.tuple #[.int .u64 (uval l : Nat), .int .i64 (uerr l)]) ∧ w = w' := by
  have hc0 := hd.cell 0 (by omega)
  rw [Nat.add_zero] at hc0
  have hb0 := hd.byte 0
  have HE := Lib.hid he
  have HD := Lib.hid hd
  have HN := Lib.hid hn
  have HZ := Lib.hid (ext_zero l hd.byte (by omega))
  clear he hd hn
  generalize l.getD 0 0 = x at *
  have hq1 : ((n : Int) == 0) = false := by rw [beq_eq_false_iff_ne]; omega
  have hq2 : (1 : Int) < n := by omega
  have hq3 : decide ((8 : Int) < n) = false := decide_eq_false (by omega)
  have hq4 : 0 < n := by omega
  have hq5 : ((x : Int) == 0) = false := by rw [beq_eq_false_iff_ne]; omega
  clear h2 hz
  go_enter Tryz.func94, Tryz.ntmps94
  go_wp2_with fail
  go_loopw [4, 5] (fun x i wr => RelX w 0 l x i wr) (fun _ i _ => l.length - (intOf i).toNat)
  case atStart => exact ⟨0, Nat.zero_le _, rfl, by rw [List.take_zero, ext_nil 0 (by decide)]; rfl, rfl⟩
  case round =>
    obtain ⟨j, hj, rfl, rfl, rfl⟩ := hrel
    rw [HN.out] at hj
    by_cases hlt : j < n
    · have hc := HD.out.cell j (by rw [HN.out]; exact hlt)
      have hb := HD.out.byte j
      have HX2 := Lib.hid (ext_next 0 l j (by rw [HN.out]; exact hlt))
      have hx := ext_lt 0 (l.take j)
      generalize ext 0 (l.take j) = y at *
      generalize l.getD j 0 = b at *
      have HO := Lib.hid (add_shift y b)
      go_wp2_with fail
      go_roundw
      case rel => exact relX_next (by rw [HN.out]; exact hlt) (by rw [HX2.out]; exact HO.out)
      case measure => simp [intOf]; rw [HN.out]; omega
    · obtain rfl : j = n := by omega
      rw [← HN.out, List.take_length, HN.out]
      go_wp2_with fail
      go_ret2
      rw [HE.out, uval_good HE.out, HZ.out]
      exact ⟨rfl, rfl⟩
theorem rfromU_bad (w : World) (g o cap : Nat) (l : List Nat) (hd : DataAt w g o l) (n : Nat) (hn : l.length = n) (h2 : 2 ≤ n) (hl : n ≤ 9223372036854775807) (he : uerr l ≠ 0) :
    Calls Tryz.prog 94 #[.slice (some ⟨g, o, none⟩) n cap] w fun e w' => e = .returned (.tuple #[.int .u64 (uval l : Nat), .int .i64 (uerr l)]) ∧ w = w' := by
  have hc0 := hd.cell 0 (by omega)
  rw [Nat.add_zero] at hc0
  have hb0 := hd.byte 0
  have hv := uval_bad he
  rw [hv]
  have hne : l ≠ [] := by rintro rfl; simp at hn; omega
  have hq1 : ((n : Int) == 0) = false := by rw [beq_eq_false_iff_ne]; omega
  have hq2 : (1 : Int) < n := by omega
  have hq4 : 0 < n := by omega
  by_cases hz : l.getD 0 0 = 0
  · have h3 : uerr l = 3 := by unfold uerr; rw [if_pos (.inr ⟨by omega, hz⟩)]
    rw [h3]
    rw [hz] at hc0
    clear he hd hn hv hz hne hb0 h3
    go_enter Tryz.func94, Tryz.ntmps94
    go_wp2_with fail
    go_ret2
    exact ⟨rfl, rfl⟩
  · have hcond : ¬ (l = [] ∨ (l.length ≠ 1 ∧ l.getD 0 0 = 0)) := fun h => h.elim hne fun h => hz h.2
    have h8 : 8 < n := by
      unfold uerr at he
      rw [if_neg hcond] at he
      split at he
      · omega
      · exact absurd rfl he
    have h3 : uerr l = 11 := by unfold uerr; rw [if_neg hcond, if_pos (by omega)]
    rw [h3]
    generalize l.getD 0 0 = x at *
    have hq5 : ((x : Int) == 0) = false := by rw [beq_eq_false_iff_ne]; omega
    have hq3 : decide ((8 : Int) < n) = true := decide_eq_true (by omega)
    clear he hd hn hv hz hne h3 hcond h8
    go_enter Tryz.func94, Tryz.ntmps94
    go_wp2_with fail
    go_ret2
    exact ⟨rfl, rfl⟩
theorem rfromU_none (w : World) (a : Option Addr) (cap : Nat) :
    Calls Tryz.prog 94 #[.slice a 0 cap] w fun e w' => e = .returned (.tuple #[.int .u64 (uval [] : Nat), .int .i64 (uerr [])]) ∧ w = w' := by
  go_enter Tryz.func94, Tryz.ntmps94
  go_wp2_with fail
  go_ret2
  exact ⟨rfl, rfl⟩
theorem rfromU_ok (w : World) (s : Value) (l : List Nat) (h : SlAt w s l) (hl : l.length ≤ 9223372036854775807) :
    Calls Tryz.prog 94 #[s] w fun e w' => e = .returned (.tuple #[.int .u64 (uval l : Nat), .int .i64 (uerr l)]) ∧ w = w' := by
  rcases h with ⟨g, o, cap, rfl, hd⟩ | ⟨rfl, a, cap, rfl⟩
  · by_cases h0 : l = []
    · subst h0
      exact rfromU_none w _ _
    · have h1 : 0 < l.length := by cases l <;> simp_all
      by_cases h2 : l.length = 1
      · exact rfromU_one w g o cap l hd _ rfl h1 (by omega) (by unfold uerr; rw [if_neg (by simp [h0, h2]), if_neg (by omega)]) h2
      · by_cases he : uerr l = 0
        · have h3 : ¬ (l = [] ∨ (l.length ≠ 1 ∧ l.getD 0 0 = 0)) := by
            intro hc
            unfold uerr at he
            rw [if_pos hc] at he
            cases he
          have h8 : l.length ≤ 8 := by
            unfold uerr at he
            rw [if_neg h3] at he
            split at he
            · cases he
            · omega
          exact rfromU_many w g o cap l hd _ rfl h1 h8 he (by omega) (fun hz => h3 (.inr ⟨h2, hz⟩))
        · exact rfromU_bad w g o cap l hd _ rfl (by omega) hl he
  · exact rfromU_none w _ _
end Go.Proofs.YtbpfggkpfaobhaaGreat
