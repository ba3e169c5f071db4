/-
  The document's answer for package strings: Alphabet, Width.
-/
import Derived.Test.YtbpfggkpfaobhaaGreatStTab2
import Derived.Test.YtbpfggkpfaobhaaGreatOref
namespace Go.Proofs.YtbpfggkpfaobhaaGreat
open Go.RowKit Go.Shelf
set_option linter.unusedVariables false
set_option linter.unusedSimpArgs false
set_option maxRecDepth 100000

set_option maxHeartbeats 2000000 in
theorem ralphabet_ok (s : ByteArray) (w : World) (hs : s.size ≤ 9223372036854775807) :
    Calls Tryz.prog 37 #[.string s] w fun e w' => e = .returned (.bool (isAl (cods s))) ∧ Below w.heap.size w w' := by
  have hlen := Lib.hid (cods_length s)
  have hat := Lib.hid (cods_at s)
  go_enter Tryz.func37, Tryz.ntmps37
  go_wp2_with fail
  go_loopw [3] (fun i wr => ∃ k : Nat, k ≤ s.size ∧ i = .int .i64 k ∧ AlTo (cods s) k ∧ Below w.heap.size w wr) (fun i _ => s.size - (intOf i).toNat)
  case atStart => exact ⟨0, Nat.zero_le _, rfl, (fun i h => by omega), Below.refl _ _⟩
  case round =>
    obtain ⟨k, hk, rfl, hall, hbl⟩ := hrel
    have HA := Lib.hid hall
    have HB := Lib.hid hbl
    clear hall hbl
    by_cases hlt : k < s.size
    · have q1 : decide ((k : Int) < (s.size : Int)) = true := decide_eq_true (by omega)
      have q5 : (k : Int) < (s.size : Int) := by omega
      have q6 : (0 : Int) ≤ (k : Int) := by omega
      obtain ⟨x, hx⟩ : ∃ x, (cods s).getD k 0 = x := ⟨_, rfl⟩
      have e : (s[k]'hlt).toNat = x := (hat.out k hlt).trans hx
      have HX := Lib.hid hx
      clear hx
      by_cases h8 : 128 ≤ x
      · have q2 : decide ((128 : Int) ≤ (x : Int)) = true := decide_eq_true (by omega)
        have HN := Lib.hid (isAl_no k (by rw [hlen.out]; exact hlt) (by rw [HX.out]; omega))
        clear h8
        go_wp2_with fail
        go_quiet (fail)
        go_wp2_with fail
        go_ret
        exact ⟨by rw [HN.out]; rfl, bdn HB.out _⟩
      have q2 : decide ((128 : Int) ≤ (x : Int)) = false := decide_eq_false (by omega)
      by_cases hk0 : k = 0
      · subst hk0
        have HR := Lib.hid (alTo_next HA.out ⟨by rw [HX.out]; omega, fun h => by omega⟩)
        go_wp2_with fail
        go_quiet (fail)
        go_wp2_with fail
        go_roundw
        case rel => exact ⟨1, hlt, rfl, HR.out, bdn HB.out _⟩
        case measure => simp [intOf]; omega
      obtain ⟨m, rfl⟩ : ∃ m, k = m + 1 := ⟨k - 1, by omega⟩
      obtain ⟨y, hy⟩ : ∃ y, (cods s).getD m 0 = y := ⟨_, rfl⟩
      have e2 : (s[m]'(by omega)).toNat = y := (hat.out m (by omega)).trans hy
      have HY := Lib.hid hy
      have q7 : (0 : Int) ≤ (m : Int) := by omega
      have q8 : (m : Int) < (s.size : Int) := by omega
      have q9 : decide ((0 : Int) < ((m + 1 : Nat) : Int)) = true := decide_eq_true (by omega)
      have q10 : ((m + 1 : Nat) : Int) - 1 = (m : Int) := by omega
      clear hy hk0
      by_cases hxy : x ≤ y
      · have q3 : decide (x ≤ y) = true := decide_eq_true hxy
        have HN := Lib.hid (isAl_no (m + 1) (by rw [hlen.out]; exact hlt) (by rw [HX.out, Nat.add_sub_cancel, HY.out]; omega))
        clear h8
        go_wp2_with fail
        go_quiet (fail)
        go_wp2_with fail
        go_ret
        exact ⟨by rw [HN.out]; rfl, bdn HB.out _⟩
      · have q3 : decide (x ≤ y) = false := decide_eq_false hxy
        have HR := Lib.hid (alTo_next HA.out ⟨by rw [HX.out]; omega, fun h => by rw [HX.out, Nat.add_sub_cancel, HY.out]; omega⟩)
        clear h8
        go_wp2_with fail
        go_quiet (fail)
        go_wp2_with fail
        go_roundw
        case rel => exact ⟨m + 1 + 1, hlt, by go_num, HR.out, bdn HB.out _⟩
        case measure => simp [intOf]; omega
    · obtain rfl : k = s.size := by omega
      have q1 : decide ((s.size : Int) < (s.size : Int)) = false := decide_eq_false (by omega)
      have HN := Lib.hid (alTo_all (l := cods s) (by rw [hlen.out]; exact HA.out))
      clear HA
      go_wp2_with fail
      go_ret
      exact ⟨by rw [HN.out]; rfl, HB.out⟩
def RelRW (w2 : World) (x : Nat) (i : Value) (wr : World) : Prop := ∃ k : Nat, x ≤ k ∧ k ≤ wdA x ∧ i = .int .i64 k ∧ wr = w2
theorem wdA_vals : wdA 0 = 0 ∧ wdA 1 = 1 ∧ wdA 2 = 2 ∧ wdA 3 = 4 ∧ wdA 4 = 4 ∧ wdA 5 = 8 ∧ wdA 6 = 8 ∧ wdA 7 = 8 := by decide
set_option maxHeartbeats 8000000 in
theorem rwidth6_gen (s : ByteArray) (al : Bool) (w : World) (hs : s.size ≤ 9223372036854775807) (hb : isAl (cods s) = true) (m x : Nat) (hm7 : m ≤ 127) (hsz : (s.size = 0 ∧ m = 127) ∨ s.size = m + 1) (hx : wid m = x) (h7 : x ≤ 7) :
    Calls Tryz.prog 38 #[.string s, .bool al] w fun e w' => e = .returned (.int .i64 ((if al = true then wdA x else x : Nat) : Int)) ∧ Below w.heap.size w w' := by
  have hA := ralphabet_ok s w hs
  rw [hb] at hA
  have HA := Lib.hid hA
  have hW := fun w => rwidth_ok m w (by omega)
  rw [hx] at hW
  have HW := Lib.hid hW
  have hu : (m : Int) % 18446744073709551616 = m := by omega
  clear hA hb hx hW
  have hx : x = 0 ∨ x = 1 ∨ x = 2 ∨ x = 3 ∨ x = 4 ∨ x = 5 ∨ x = 6 ∨ x = 7 := by omega
  rcases hsz with ⟨h0, rfl⟩ | h0
  · have q1 : ((s.size : Int) == 0) = true := by rw [h0]; rfl
    cases al with
    | false =>
      rw [if_neg (show ¬ (false = true) by simp)]
      clear hx h7
      go_enter Tryz.func38, Tryz.ntmps38
      go_wp2_with fail
      refine HA.out.mono ?_
      rintro e w1 ⟨rfl, hb1⟩
      have H1 := Lib.hid hb1
      clear hb1 HA
      go_wp2_with fail
      refine (HW.out w1).mono ?_
      rintro e w2 ⟨rfl, rfl⟩
      go_wp2_with fail
      go_loopw [6] (fun i wr => i = .int .i64 x ∧ wr = w1) (fun _ _ => 0)
      case atStart => exact ⟨rfl, rfl⟩
      case round =>
        obtain ⟨rfl, rfl⟩ := hrel
        go_wp2_with fail
        go_ret
        exact ⟨rfl, H1.out⟩
    | true =>
      rw [if_pos rfl]
      go_enter Tryz.func38, Tryz.ntmps38
      go_wp2_with fail
      refine HA.out.mono ?_
      rintro e w1 ⟨rfl, hb1⟩
      have H1 := Lib.hid hb1
      clear hb1 HA
      go_wp2_with fail
      refine (HW.out w1).mono ?_
      rintro e w2 ⟨rfl, rfl⟩
      clear HW h7
      rcases hx with rfl | rfl | rfl | rfl | rfl | rfl | rfl | rfl
      · go_wp2_with fail
        go_loopw [6] (fun i wr => RelRW w1 0 i wr) (fun i _ => 8 - (intOf i).toNat)
        case atStart => exact ⟨0, Nat.le_refl _, by decide, rfl, rfl⟩
        case round =>
          obtain ⟨k, hk1, hk2, rfl, rfl⟩ := hrel
          rw [show wdA 0 = 0 from rfl] at hk2
          have hk : k = 0 := by omega
          rcases hk with rfl
          all_goals
            clear hk1 hk2
            go_wp2_with fail
            first
            | (go_ret
               exact ⟨rfl, H1.out⟩)
            | (go_roundw
               case rel => exact ⟨_, (by decide : _ ≤ _ + 1), by decide, rfl, rfl⟩
               case measure => simp [intOf])
      · go_wp2_with fail
        go_loopw [6] (fun i wr => RelRW w1 1 i wr) (fun i _ => 8 - (intOf i).toNat)
        case atStart => exact ⟨1, Nat.le_refl _, by decide, rfl, rfl⟩
        case round =>
          obtain ⟨k, hk1, hk2, rfl, rfl⟩ := hrel
          rw [show wdA 1 = 1 from rfl] at hk2
          have hk : k = 1 := by omega
          rcases hk with rfl
          all_goals
            clear hk1 hk2
            go_wp2_with fail
            first
            | (go_ret
               exact ⟨rfl, H1.out⟩)
            | (go_roundw
               case rel => exact ⟨_, (by decide : _ ≤ _ + 1), by decide, rfl, rfl⟩
               case measure => simp [intOf])
      · go_wp2_with fail
        go_loopw [6] (fun i wr => RelRW w1 2 i wr) (fun i _ => 8 - (intOf i).toNat)
        case atStart => exact ⟨2, Nat.le_refl _, by decide, rfl, rfl⟩
        case round =>
          obtain ⟨k, hk1, hk2, rfl, rfl⟩ := hrel
          rw [show wdA 2 = 2 from rfl] at hk2
          have hk : k = 2 := by omega
          rcases hk with rfl
          all_goals
            clear hk1 hk2
            go_wp2_with fail
            first
            | (go_ret
               exact ⟨rfl, H1.out⟩)
            | (go_roundw
               case rel => exact ⟨_, (by decide : _ ≤ _ + 1), by decide, rfl, rfl⟩
               case measure => simp [intOf])
      · go_wp2_with fail
        go_loopw [6] (fun i wr => RelRW w1 3 i wr) (fun i _ => 8 - (intOf i).toNat)
        case atStart => exact ⟨3, Nat.le_refl _, by decide, rfl, rfl⟩
        case round =>
          obtain ⟨k, hk1, hk2, rfl, rfl⟩ := hrel
          rw [show wdA 3 = 4 from rfl] at hk2
          have hk : k = 3 ∨ k = 4 := by omega
          rcases hk with rfl | rfl
          all_goals
            clear hk1 hk2
            go_wp2_with fail
            first
            | (go_ret
               exact ⟨rfl, H1.out⟩)
            | (go_roundw
               case rel => exact ⟨_, (by decide : _ ≤ _ + 1), by decide, rfl, rfl⟩
               case measure => simp [intOf])
      · go_wp2_with fail
        go_loopw [6] (fun i wr => RelRW w1 4 i wr) (fun i _ => 8 - (intOf i).toNat)
        case atStart => exact ⟨4, Nat.le_refl _, by decide, rfl, rfl⟩
        case round =>
          obtain ⟨k, hk1, hk2, rfl, rfl⟩ := hrel
          rw [show wdA 4 = 4 from rfl] at hk2
          have hk : k = 4 := by omega
          rcases hk with rfl
          all_goals
            clear hk1 hk2
            go_wp2_with fail
            first
            | (go_ret
               exact ⟨rfl, H1.out⟩)
            | (go_roundw
               case rel => exact ⟨_, (by decide : _ ≤ _ + 1), by decide, rfl, rfl⟩
               case measure => simp [intOf])
      · go_wp2_with fail
        go_loopw [6] (fun i wr => RelRW w1 5 i wr) (fun i _ => 8 - (intOf i).toNat)
        case atStart => exact ⟨5, Nat.le_refl _, by decide, rfl, rfl⟩
        case round =>
          obtain ⟨k, hk1, hk2, rfl, rfl⟩ := hrel
          rw [show wdA 5 = 8 from rfl] at hk2
          have hk : k = 5 ∨ k = 6 ∨ k = 7 ∨ k = 8 := by omega
          rcases hk with rfl | rfl | rfl | rfl
          all_goals
            clear hk1 hk2
            go_wp2_with fail
            first
            | (go_ret
               exact ⟨rfl, H1.out⟩)
            | (go_roundw
               case rel => exact ⟨_, (by decide : _ ≤ _ + 1), by decide, rfl, rfl⟩
               case measure => simp [intOf])
      · go_wp2_with fail
        go_loopw [6] (fun i wr => RelRW w1 6 i wr) (fun i _ => 8 - (intOf i).toNat)
        case atStart => exact ⟨6, Nat.le_refl _, by decide, rfl, rfl⟩
        case round =>
          obtain ⟨k, hk1, hk2, rfl, rfl⟩ := hrel
          rw [show wdA 6 = 8 from rfl] at hk2
          have hk : k = 6 ∨ k = 7 ∨ k = 8 := by omega
          rcases hk with rfl | rfl | rfl
          all_goals
            clear hk1 hk2
            go_wp2_with fail
            first
            | (go_ret
               exact ⟨rfl, H1.out⟩)
            | (go_roundw
               case rel => exact ⟨_, (by decide : _ ≤ _ + 1), by decide, rfl, rfl⟩
               case measure => simp [intOf])
      · go_wp2_with fail
        go_loopw [6] (fun i wr => RelRW w1 7 i wr) (fun i _ => 8 - (intOf i).toNat)
        case atStart => exact ⟨7, Nat.le_refl _, by decide, rfl, rfl⟩
        case round =>
          obtain ⟨k, hk1, hk2, rfl, rfl⟩ := hrel
          rw [show wdA 7 = 8 from rfl] at hk2
          have hk : k = 7 ∨ k = 8 := by omega
          rcases hk with rfl | rfl
          all_goals
            clear hk1 hk2
            go_wp2_with fail
            first
            | (go_ret
               exact ⟨rfl, H1.out⟩)
            | (go_roundw
               case rel => exact ⟨_, (by decide : _ ≤ _ + 1), by decide, rfl, rfl⟩
               case measure => simp [intOf])
  · have q1 : ((s.size : Int) == 0) = false := beq_false_of_ne (show (s.size : Int) ≠ 0 by omega)
    have q2 : (s.size : Int) - 1 = (m : Int) := by omega
    have q3 : decide ((s.size : Int) = 0) = false := decide_eq_false (by omega)
    have q4 : IntKind.i64.wrap (m : Int) = (m : Int) := by rw [IntKind.wrap_i64]; omega
    clear h0
    cases al with
    | false =>
      rw [if_neg (show ¬ (false = true) by simp)]
      clear hx h7
      go_enter Tryz.func38, Tryz.ntmps38
      go_wp2_with fail
      refine HA.out.mono ?_
      rintro e w1 ⟨rfl, hb1⟩
      have H1 := Lib.hid hb1
      clear hb1 HA
      go_wp2_with fail
      refine (HW.out w1).mono ?_
      rintro e w2 ⟨rfl, rfl⟩
      go_wp2_with fail
      go_loopw [6] (fun i wr => i = .int .i64 x ∧ wr = w1) (fun _ _ => 0)
      case atStart => exact ⟨rfl, rfl⟩
      case round =>
        obtain ⟨rfl, rfl⟩ := hrel
        go_wp2_with fail
        go_ret
        exact ⟨rfl, H1.out⟩
    | true =>
      rw [if_pos rfl]
      go_enter Tryz.func38, Tryz.ntmps38
      go_wp2_with fail
      refine HA.out.mono ?_
      rintro e w1 ⟨rfl, hb1⟩
      have H1 := Lib.hid hb1
      clear hb1 HA
      go_wp2_with fail
      refine (HW.out w1).mono ?_
      rintro e w2 ⟨rfl, rfl⟩
      clear HW h7
      rcases hx with rfl | rfl | rfl | rfl | rfl | rfl | rfl | rfl
      · go_wp2_with fail
        go_loopw [6] (fun i wr => RelRW w1 0 i wr) (fun i _ => 8 - (intOf i).toNat)
        case atStart => exact ⟨0, Nat.le_refl _, by decide, rfl, rfl⟩
        case round =>
          obtain ⟨k, hk1, hk2, rfl, rfl⟩ := hrel
          rw [show wdA 0 = 0 from rfl] at hk2
          have hk : k = 0 := by omega
          rcases hk with rfl
          all_goals
            clear hk1 hk2
            go_wp2_with fail
            first
            | (go_ret
               exact ⟨rfl, H1.out⟩)
            | (go_roundw
               case rel => exact ⟨_, (by decide : _ ≤ _ + 1), by decide, rfl, rfl⟩
               case measure => simp [intOf])
      · go_wp2_with fail
        go_loopw [6] (fun i wr => RelRW w1 1 i wr) (fun i _ => 8 - (intOf i).toNat)
        case atStart => exact ⟨1, Nat.le_refl _, by decide, rfl, rfl⟩
        case round =>
          obtain ⟨k, hk1, hk2, rfl, rfl⟩ := hrel
          rw [show wdA 1 = 1 from rfl] at hk2
          have hk : k = 1 := by omega
          rcases hk with rfl
          all_goals
            clear hk1 hk2
            go_wp2_with fail
            first
            | (go_ret
               exact ⟨rfl, H1.out⟩)
            | (go_roundw
               case rel => exact ⟨_, (by decide : _ ≤ _ + 1), by decide, rfl, rfl⟩
               case measure => simp [intOf])
      · go_wp2_with fail
        go_loopw [6] (fun i wr => RelRW w1 2 i wr) (fun i _ => 8 - (intOf i).toNat)
        case atStart => exact ⟨2, Nat.le_refl _, by decide, rfl, rfl⟩
        case round =>
          obtain ⟨k, hk1, hk2, rfl, rfl⟩ := hrel
          rw [show wdA 2 = 2 from rfl] at hk2
          have hk : k = 2 := by omega
          rcases hk with rfl
          all_goals
            clear hk1 hk2
            go_wp2_with fail
            first
            | (go_ret
               exact ⟨rfl, H1.out⟩)
            | (go_roundw
               case rel => exact ⟨_, (by decide : _ ≤ _ + 1), by decide, rfl, rfl⟩
               case measure => simp [intOf])
      · go_wp2_with fail
        go_loopw [6] (fun i wr => RelRW w1 3 i wr) (fun i _ => 8 - (intOf i).toNat)
        case atStart => exact ⟨3, Nat.le_refl _, by decide, rfl, rfl⟩
        case round =>
          obtain ⟨k, hk1, hk2, rfl, rfl⟩ := hrel
          rw [show wdA 3 = 4 from rfl] at hk2
          have hk : k = 3 ∨ k = 4 := by omega
          rcases hk with rfl | rfl
          all_goals
            clear hk1 hk2
            go_wp2_with fail
            first
            | (go_ret
               exact ⟨rfl, H1.out⟩)
            | (go_roundw
               case rel => exact ⟨_, (by decide : _ ≤ _ + 1), by decide, rfl, rfl⟩
               case measure => simp [intOf])
      · go_wp2_with fail
        go_loopw [6] (fun i wr => RelRW w1 4 i wr) (fun i _ => 8 - (intOf i).toNat)
        case atStart => exact ⟨4, Nat.le_refl _, by decide, rfl, rfl⟩
        case round =>
          obtain ⟨k, hk1, hk2, rfl, rfl⟩ := hrel
          rw [show wdA 4 = 4 from rfl] at hk2
          have hk : k = 4 := by omega
          rcases hk with rfl
          all_goals
            clear hk1 hk2
            go_wp2_with fail
            first
            | (go_ret
               exact ⟨rfl, H1.out⟩)
            | (go_roundw
               case rel => exact ⟨_, (by decide : _ ≤ _ + 1), by decide, rfl, rfl⟩
               case measure => simp [intOf])
      · go_wp2_with fail
        go_loopw [6] (fun i wr => RelRW w1 5 i wr) (fun i _ => 8 - (intOf i).toNat)
        case atStart => exact ⟨5, Nat.le_refl _, by decide, rfl, rfl⟩
        case round =>
          obtain ⟨k, hk1, hk2, rfl, rfl⟩ := hrel
          rw [show wdA 5 = 8 from rfl] at hk2
          have hk : k = 5 ∨ k = 6 ∨ k = 7 ∨ k = 8 := by omega
          rcases hk with rfl | rfl | rfl | rfl
          all_goals
            clear hk1 hk2
            go_wp2_with fail
            first
            | (go_ret
               exact ⟨rfl, H1.out⟩)
            | (go_roundw
               case rel => exact ⟨_, (by decide : _ ≤ _ + 1), by decide, rfl, rfl⟩
               case measure => simp [intOf])
      · go_wp2_with fail
        go_loopw [6] (fun i wr => RelRW w1 6 i wr) (fun i _ => 8 - (intOf i).toNat)
        case atStart => exact ⟨6, Nat.le_refl _, by decide, rfl, rfl⟩
        case round =>
          obtain ⟨k, hk1, hk2, rfl, rfl⟩ := hrel
          rw [show wdA 6 = 8 from rfl] at hk2
          have hk : k = 6 ∨ k = 7 ∨ k = 8 := by omega
          rcases hk with rfl | rfl | rfl
          all_goals
            clear hk1 hk2
            go_wp2_with fail
            first
            | (go_ret
               exact ⟨rfl, H1.out⟩)
            | (go_roundw
               case rel => exact ⟨_, (by decide : _ ≤ _ + 1), by decide, rfl, rfl⟩
               case measure => simp [intOf])
      · go_wp2_with fail
        go_loopw [6] (fun i wr => RelRW w1 7 i wr) (fun i _ => 8 - (intOf i).toNat)
        case atStart => exact ⟨7, Nat.le_refl _, by decide, rfl, rfl⟩
        case round =>
          obtain ⟨k, hk1, hk2, rfl, rfl⟩ := hrel
          rw [show wdA 7 = 8 from rfl] at hk2
          have hk : k = 7 ∨ k = 8 := by omega
          rcases hk with rfl | rfl
          all_goals
            clear hk1 hk2
            go_wp2_with fail
            first
            | (go_ret
               exact ⟨rfl, H1.out⟩)
            | (go_roundw
               case rel => exact ⟨_, (by decide : _ ≤ _ + 1), by decide, rfl, rfl⟩
               case measure => simp [intOf])
theorem rwidth6_ok (s : ByteArray) (al : Bool) (w : World) (hs : s.size ≤ 9223372036854775807) :
    Calls Tryz.prog 38 #[.string s, .bool al] w fun e w' => e = .returned (.int .i64 (wdT (cods s) al : Nat)) ∧ Below w.heap.size w w' := by
  cases hb : isAl (cods s) with
  | false =>
    have hA := ralphabet_ok s w hs
    rw [wdT_no hb]
    rw [hb] at hA
    have HA := Lib.hid hA
    clear hA hb
    go_enter Tryz.func38, Tryz.ntmps38
    go_wp2_with fail
    refine HA.out.mono ?_
    rintro e w1 ⟨rfl, hb1⟩
    have H1 := Lib.hid hb1
    clear hb1 HA
    go_wp2_with fail
    go_ret
    exact ⟨rfl, H1.out⟩
  | true =>
    have h7 := widA7 hb
    have hl := cods_length s
    have h128 := al_len hb
    have hg := rwidth6_gen s al w hs hb ((sp (cods s)).length - 1) (wid ((sp (cods s)).length - 1)) (by have := al_len (sp_al hb); omega) (by
      unfold sp
      by_cases h : cods s = []
      · rw [if_pos h]; exact .inl ⟨cods_nil.1 h, by simp⟩
      · rw [if_neg h]
        have : s.size ≠ 0 := fun e => h (cods_nil.2 e)
        exact .inr (by omega)) rfl h7
    have e : wdT (cods s) al = if al = true then wdA (wid ((sp (cods s)).length - 1)) else wid ((sp (cods s)).length - 1) := by unfold wdT; rw [if_pos hb]
    rw [e]
    exact hg
end Go.Proofs.YtbpfggkpfaobhaaGreat
