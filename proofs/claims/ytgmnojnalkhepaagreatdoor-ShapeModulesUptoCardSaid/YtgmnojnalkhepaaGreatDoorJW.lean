/-
  A bundle of texts, one behind the other: ShY1, ShY2, ShY3.
-/
import Derived.Test.YtgmnojnalkhepaaGreatDoorJF
import Derived.Test.YtgmnojnalkhepaaGreatDoorJA
import Derived.Test.YtgmnojnalkhepaaGreatDoorJO
import Derived.BigQuiet
import Derived.Test.YtgmnojnalkhepaaGreatDoorJL
/-
  The document's whether characters are so: 'printable', 'names', 'Name', 'Keyword'.
-/
namespace Go.Proofs.YtgmnojnalkhepaaGreatDoor
open Go.RowKit
set_option linter.unusedVariables false
set_option linter.unusedSimpArgs false
set_option maxRecDepth 100000

def prP (s : ByteArray) (r : Bool) (i : Nat) : Bool := isQt (tAt (cods s) i) && !(r && (decide (0 < i) && decide (tAt (cods s) i ≤ tAt (cods s) (i - 1))))
theorem prP_chars (s : ByteArray) : allN (prP s false) s.size = chars s := by
  unfold chars
  refine allN_congr fun i _ => ?_
  simp [prP]
theorem prP_alph (s : ByteArray) : allN (prP s true) s.size = alph s := by
  unfold alph chars
  rw [Bool.eq_iff_iff]
  simp only [Bool.and_eq_true, allN_iff]
  constructor
  · intro h
    refine ⟨fun j hj => ?_, fun i hi => ?_⟩
    · have := h (j + 1) (by omega)
      simp only [prP, Bool.and_eq_true, Bool.not_eq_true', Bool.and_eq_false_iff, decide_eq_false_iff_not, Bool.true_eq_false, false_or] at this
      unfold riseP
      rw [decide_eq_true_eq]
      have h2 := this.2
      rw [Nat.add_sub_cancel] at h2
      omega
    · have := h i hi
      simp only [prP, Bool.and_eq_true] at this
      exact this.1
  · rintro ⟨h1, h2⟩ i hi
    simp only [prP, Bool.and_eq_true, Bool.not_eq_true', Bool.and_eq_false_iff, decide_eq_false_iff_not, Bool.true_eq_false, false_or]
    refine ⟨h2 i hi, ?_⟩
    by_cases h0 : 0 < i
    · right
      have := h1 (i - 1) (by omega)
      unfold riseP at this
      rw [decide_eq_true_eq, Nat.sub_add_cancel h0] at this
      omega
    · left; exact h0
def RelPr (s : ByteArray) (r : Bool) (W : World) (iv : Value) (wr : World) : Prop := ∃ i : Nat, i ≤ s.size ∧ iv = .int .i64 (i : Nat) ∧ allN (prP s r) i = true ∧ ∃ n, wr = W.drewN n
set_option maxHeartbeats 8000000 in
theorem rprint_ok (s : ByteArray) (r : Bool) (w : World) (hs : s.size ≤ 140737488355328) : Calls Tryz.prog 69 #[.string s, .bool r] w fun e w' => e = .returned (.bool (allN (prP s r) s.size)) ∧ Below w.heap.size w w' := by
  have HL := Lib.hid hs
  have HBN := Lib.hid (fun m => show Below w.heap.size w (w.drewN m) from ⟨rfl, rfl, rfl, Nat.le_refl _, fun _ _ => rfl⟩)
  obtain ⟨res, hres⟩ : ∃ res, allN (prP s r) s.size = res := ⟨_, rfl⟩
  rw [hres]
  have HRES := Lib.hid hres
  clear hres
  go_enter Tryz.func69, Tryz.ntmps69
  go_wp2_with fail
  go_loopw [5] (fun iv wr => RelPr s r w iv wr) (fun iv _ => s.size - (Lib.intOf iv).toNat)
  case atStart => exact ⟨0, Nat.zero_le _, rfl, rfl, 0, rfl⟩
  case round =>
    obtain ⟨i, hi, rfl, hall, m, rfl⟩ := hrel
    have HA := Lib.hid hall
    clear hall
    by_cases hlt : i < s.size
    · have q1 : decide ((i : Int) < (s.size : Int)) = true := decide_eq_true (by omega)
      have q1n : decide (i < s.size) = true := decide_eq_true hlt
      obtain ⟨x, hx⟩ : ∃ x, tAt (cods s) i = x := ⟨_, rfl⟩
      have e1 : (s[i]'hlt).toNat = x := (cods_at s i hlt).trans hx
      have q3 : (i : Int) < (s.size : Int) := by omega
      have q4 : (0 : Int) ≤ (i : Int) := by omega
      have q5 : IntKind.i64.wrap ((i : Int) + 1) = ((i + 1 : Nat) : Int) := wrap_succ hlt (by omega)
      have HX := Lib.hid hx
      have HI := Lib.hid hi
      clear hx hi
      by_cases h1 : x < 32
      · have HN := Lib.hid (allN_no (f := prP s r) hlt (by unfold prP; rw [HX.out]; simp [isQt]; omega))
        obtain rfl : res = false := by rw [← HRES.out, HN.out]
        have q6 : decide ((x : Int) < 32) = true := decide_eq_true (by omega)
        have q6n : decide (x < 32) = true := decide_eq_true h1
        go_wp2_with fail
        go_quiet (fail)
        go_wp2_with fail
        go_ret
        exact ⟨rfl, by simpa using HBN.out (m + nq)⟩
      · have q6 : decide ((x : Int) < 32) = false := decide_eq_false (by omega)
        have q6n : decide (x < 32) = false := decide_eq_false h1
        by_cases h2 : 126 < x
        · have HN := Lib.hid (allN_no (f := prP s r) hlt (by unfold prP; rw [HX.out]; simp [isQt]; omega))
          obtain rfl : res = false := by rw [← HRES.out, HN.out]
          have q7 : decide ((126 : Int) < (x : Int)) = true := decide_eq_true (by omega)
          have q7n : decide (126 < x) = true := decide_eq_true h2
          go_wp2_with fail
          go_quiet (fail)
          go_wp2_with fail
          go_ret
          exact ⟨rfl, by simpa using HBN.out (m + nq)⟩
        · have q7 : decide ((126 : Int) < (x : Int)) = false := decide_eq_false (by omega)
          have q7n : decide (126 < x) = false := decide_eq_false h2
          cases r with
          | false =>
            have HN := Lib.hid (allN_succ (f := prP s false) HA.out (by unfold prP; rw [HX.out]; simp [isQt]; omega))
            go_wp2_with fail
            go_quiet (fail)
            go_wp2_with fail
            go_roundw
            case rel => exact ⟨i + 1, hlt, rfl, HN.out, m + nq, by simp⟩
            case measure => simp only [Lib.intOf]; omega
          | true =>
            by_cases h0 : 0 < i
            · have q8 : decide ((0 : Int) < (i : Int)) = true := decide_eq_true (by omega)
              have q8n : decide (0 < i) = true := decide_eq_true h0
              obtain ⟨j, hij⟩ : ∃ j, j + 1 = i := ⟨i - 1, by omega⟩
              have hjl : j < s.size := by omega
              obtain ⟨y, hy⟩ : ∃ y, tAt (cods s) j = y := ⟨_, rfl⟩
              have e2 : (s[j]'hjl).toNat = y := (cods_at s j hjl).trans hy
              have q3j : (j : Int) < (s.size : Int) := by omega
              have q4j : (0 : Int) ≤ (j : Int) := by omega
              have q9 : IntKind.i64.wrap ((i : Int) - 1) = (j : Int) := (wrap_ok (x := (i : Int) - 1) (by unfold I64; omega)).trans (by omega)
              have HP := Lib.hid (show prP s true i = !decide (x ≤ y) by
                have g1 : isQt x = true := by simp [isQt]; omega
                unfold prP
                rw [HX.out, show i - 1 = j by omega, hy, g1, q8n]
                simp)
              clear hy hij
              by_cases h3 : x ≤ y
              · have q10 : decide ((x : Int) ≤ (y : Int)) = true := decide_eq_true (by omega)
                have q10n : decide (x ≤ y) = true := decide_eq_true h3
                have HN := Lib.hid (allN_no (f := prP s true) hlt (by rw [HP.out, q10n]; rfl))
                obtain rfl : res = false := by rw [← HRES.out, HN.out]
                go_wp2_with fail
                go_quiet (fail)
                go_wp2_with fail
                go_ret
                exact ⟨rfl, by simpa using HBN.out (m + nq)⟩
              · have q10 : decide ((x : Int) ≤ (y : Int)) = false := decide_eq_false (by omega)
                have q10n : decide (x ≤ y) = false := decide_eq_false h3
                have HN := Lib.hid (allN_succ (f := prP s true) HA.out (by rw [HP.out, q10n]; rfl))
                go_wp2_with fail
                go_quiet (fail)
                go_wp2_with fail
                go_roundw
                case rel => exact ⟨i + 1, hlt, rfl, HN.out, m + nq, by simp⟩
                case measure => simp only [Lib.intOf]; omega
            · have q8 : decide ((0 : Int) < (i : Int)) = false := decide_eq_false (by omega)
              have q8n : decide (0 < i) = false := decide_eq_false h0
              have HN := Lib.hid (allN_succ (f := prP s true) HA.out (by unfold prP; rw [HX.out]; simp [isQt]; omega))
              go_wp2_with fail
              go_quiet (fail)
              go_wp2_with fail
              go_roundw
              case rel => exact ⟨i + 1, hlt, rfl, HN.out, m + nq, by simp⟩
              case measure => simp only [Lib.intOf]; omega
    · have q1 : decide ((i : Int) < (s.size : Int)) = false := decide_eq_false (by omega)
      have q1n : decide (i < s.size) = false := decide_eq_false hlt
      obtain rfl : i = s.size := by omega
      obtain rfl : res = true := by rw [← HRES.out, HA.out]
      go_wp2_with fail
      go_ret
      exact ⟨rfl, HBN.out _⟩
end Go.Proofs.YtgmnojnalkhepaaGreatDoor

/-
  The document's words: 'Keyword', 'Name', 'names'.
-/
namespace Go.Proofs.YtgmnojnalkhepaaGreatDoor
open Go.RowKit
set_option linter.unusedVariables false
set_option linter.unusedSimpArgs false
set_option maxRecDepth 100000

def kwB : List ByteArray := [⟨#[66, 79, 79, 76, 69, 65, 78]⟩, ⟨#[73, 78, 84, 69, 71, 69, 82]⟩, ⟨#[69, 78, 85, 77, 69, 82, 65, 84, 69, 68]⟩, ⟨#[78, 85, 76, 76]⟩, ⟨#[66, 73, 84]⟩, ⟨#[83, 84, 82, 73, 78, 71]⟩, ⟨#[79, 67, 84, 69, 84]⟩, ⟨#[73, 65, 53, 83, 116, 114, 105, 110, 103]⟩, ⟨#[83, 69, 81, 85, 69, 78, 67, 69]⟩, ⟨#[79, 70]⟩, ⟨#[67, 72, 79, 73, 67, 69]⟩, ⟨#[83, 73, 90, 69]⟩, ⟨#[70, 82, 79, 77]⟩, ⟨#[79, 80, 84, 73, 79, 78, 65, 76]⟩, ⟨#[68, 69, 70, 65, 85, 76, 84]⟩, ⟨#[84, 82, 85, 69]⟩, ⟨#[70, 65, 76, 83, 69]⟩, ⟨#[77, 73, 78]⟩, ⟨#[77, 65, 88]⟩, ⟨#[69, 88, 67, 69, 80, 84]⟩, ⟨#[68, 69, 70, 73, 78, 73, 84, 73, 79, 78, 83]⟩, ⟨#[65, 85, 84, 79, 77, 65, 84, 73, 67]⟩, ⟨#[84, 65, 71, 83]⟩, ⟨#[66, 69, 71, 73, 78]⟩, ⟨#[69, 78, 68]⟩, ⟨#[73, 77, 80, 79, 82, 84, 83]⟩]
theorem kwB_map : kwB.map (fun b => b.data.toList) = kwords := by kernel_rfl
def kwP (s : ByteArray) (i : Nat) : Bool := !((kwB.getD i ⟨#[]⟩).toList == s.toList)
theorem kwd_all (s : ByteArray) : kwd s = !allN (kwP s) 26 := by
  have h1 : kwd s = kwB.any fun b => s.toList == b.toList := by
    unfold kwd
    rw [← kwB_map, List.any_map]
    congr 1
    funext b
    simp [ByteArray.toList_eq]
  rw [h1, Bool.eq_iff_iff]
  simp only [List.any_eq_true, Bool.not_eq_true', Bool.eq_false_iff, ne_eq, allN_iff]
  constructor
  · rintro ⟨b, hb, he⟩ h
    obtain ⟨i, hi, rfl⟩ := List.getElem_of_mem hb
    have hi2 : i < 26 := hi
    have := h i hi2
    unfold kwP at this
    rw [List.getD_eq_getElem?_getD, List.getElem?_eq_getElem hi] at this
    rw [Bool.beq_comm] at he
    simp only [Option.getD_some, he] at this
    exact absurd this (by decide)
  · intro h
    refine Classical.byContradiction fun hn => h fun i hi => ?_
    have hi2 : i < kwB.length := hi
    unfold kwP
    rw [List.getD_eq_getElem?_getD, List.getElem?_eq_getElem hi2, Option.getD_some, Bool.not_eq_true', Bool.eq_false_iff]
    intro e
    exact hn ⟨kwB[i], List.getElem_mem _, by rw [Bool.beq_comm]; exact e⟩
def kwC : Array Value := #[.string ⟨#[66, 79, 79, 76, 69, 65, 78]⟩, .string ⟨#[73, 78, 84, 69, 71, 69, 82]⟩, .string ⟨#[69, 78, 85, 77, 69, 82, 65, 84, 69, 68]⟩, .string ⟨#[78, 85, 76, 76]⟩, .string ⟨#[66, 73, 84]⟩, .string ⟨#[83, 84, 82, 73, 78, 71]⟩, .string ⟨#[79, 67, 84, 69, 84]⟩, .string ⟨#[73, 65, 53, 83, 116, 114, 105, 110, 103]⟩, .string ⟨#[83, 69, 81, 85, 69, 78, 67, 69]⟩, .string ⟨#[79, 70]⟩, .string ⟨#[67, 72, 79, 73, 67, 69]⟩, .string ⟨#[83, 73, 90, 69]⟩, .string ⟨#[70, 82, 79, 77]⟩, .string ⟨#[79, 80, 84, 73, 79, 78, 65, 76]⟩, .string ⟨#[68, 69, 70, 65, 85, 76, 84]⟩, .string ⟨#[84, 82, 85, 69]⟩, .string ⟨#[70, 65, 76, 83, 69]⟩, .string ⟨#[77, 73, 78]⟩, .string ⟨#[77, 65, 88]⟩, .string ⟨#[69, 88, 67, 69, 80, 84]⟩, .string ⟨#[68, 69, 70, 73, 78, 73, 84, 73, 79, 78, 83]⟩, .string ⟨#[65, 85, 84, 79, 77, 65, 84, 73, 67]⟩, .string ⟨#[84, 65, 71, 83]⟩, .string ⟨#[66, 69, 71, 73, 78]⟩, .string ⟨#[69, 78, 68]⟩, .string ⟨#[73, 77, 80, 79, 82, 84, 83]⟩]
theorem kwC_at : ∀ i, i < 26 → kwC[i]? = some (.string (kwB.getD i ⟨#[]⟩)) := by
  intro i hi
  match i, hi with
  | 0, _ => rfl
  | 1, _ => rfl
  | 2, _ => rfl
  | 3, _ => rfl
  | 4, _ => rfl
  | 5, _ => rfl
  | 6, _ => rfl
  | 7, _ => rfl
  | 8, _ => rfl
  | 9, _ => rfl
  | 10, _ => rfl
  | 11, _ => rfl
  | 12, _ => rfl
  | 13, _ => rfl
  | 14, _ => rfl
  | 15, _ => rfl
  | 16, _ => rfl
  | 17, _ => rfl
  | 18, _ => rfl
  | 19, _ => rfl
  | 20, _ => rfl
  | 21, _ => rfl
  | 22, _ => rfl
  | 23, _ => rfl
  | 24, _ => rfl
  | 25, _ => rfl
  | n + 26, h => exact absurd h (by omega)
def RelKw (s : ByteArray) (W : World) (iv : Value) (wr : World) : Prop := ∃ i : Nat, i ≤ 26 ∧ iv = .int .i64 (i : Nat) ∧ allN (kwP s) i = true ∧ wr = W
set_option maxHeartbeats 8000000 in
theorem rkeyword_ok (s : ByteArray) (w : World) : Calls Tryz.prog 11 #[.string s] w fun e w' => e = .returned (.bool (kwd s)) ∧ Below w.heap.size w w' := by
  have HX := Lib.hid (Bx.new w kwC 9)
  have HB := Lib.hid ((Below.refl w.heap.size w).alloc (Nat.le_refl _) (.cells kwC 9))
  obtain ⟨res, hres⟩ : ∃ res, kwd s = res := ⟨_, rfl⟩
  rw [hres]
  have HRES := Lib.hid (show allN (kwP s) 26 = !res by rw [← hres, kwd_all, Bool.not_not])
  clear hres
  go_enter Tryz.func11, Tryz.ntmps11
  go_wp2_with fail
  have HX2 : Hid (Bx (w.alloc (.cells #[.string ⟨#[66, 79, 79, 76, 69, 65, 78]⟩, .string ⟨#[73, 78, 84, 69, 71, 69, 82]⟩, .string ⟨#[69, 78, 85, 77, 69, 82, 65, 84, 69, 68]⟩, .string ⟨#[78, 85, 76, 76]⟩, .string ⟨#[66, 73, 84]⟩, .string ⟨#[83, 84, 82, 73, 78, 71]⟩, .string ⟨#[79, 67, 84, 69, 84]⟩, .string ⟨#[73, 65, 53, 83, 116, 114, 105, 110, 103]⟩, .string ⟨#[83, 69, 81, 85, 69, 78, 67, 69]⟩, .string ⟨#[79, 70]⟩, .string ⟨#[67, 72, 79, 73, 67, 69]⟩, .string ⟨#[83, 73, 90, 69]⟩, .string ⟨#[70, 82, 79, 77]⟩, .string ⟨#[79, 80, 84, 73, 79, 78, 65, 76]⟩, .string ⟨#[68, 69, 70, 65, 85, 76, 84]⟩, .string ⟨#[84, 82, 85, 69]⟩, .string ⟨#[70, 65, 76, 83, 69]⟩, .string ⟨#[77, 73, 78]⟩, .string ⟨#[77, 65, 88]⟩, .string ⟨#[69, 88, 67, 69, 80, 84]⟩, .string ⟨#[68, 69, 70, 73, 78, 73, 84, 73, 79, 78, 83]⟩, .string ⟨#[65, 85, 84, 79, 77, 65, 84, 73, 67]⟩, .string ⟨#[84, 65, 71, 83]⟩, .string ⟨#[66, 69, 71, 73, 78]⟩, .string ⟨#[69, 78, 68]⟩, .string ⟨#[73, 77, 80, 79, 82, 84, 83]⟩] 9)) w.heap.size kwC 9) := HX
  have HB2 : Hid (Below w.heap.size w (w.alloc (.cells #[.string ⟨#[66, 79, 79, 76, 69, 65, 78]⟩, .string ⟨#[73, 78, 84, 69, 71, 69, 82]⟩, .string ⟨#[69, 78, 85, 77, 69, 82, 65, 84, 69, 68]⟩, .string ⟨#[78, 85, 76, 76]⟩, .string ⟨#[66, 73, 84]⟩, .string ⟨#[83, 84, 82, 73, 78, 71]⟩, .string ⟨#[79, 67, 84, 69, 84]⟩, .string ⟨#[73, 65, 53, 83, 116, 114, 105, 110, 103]⟩, .string ⟨#[83, 69, 81, 85, 69, 78, 67, 69]⟩, .string ⟨#[79, 70]⟩, .string ⟨#[67, 72, 79, 73, 67, 69]⟩, .string ⟨#[83, 73, 90, 69]⟩, .string ⟨#[70, 82, 79, 77]⟩, .string ⟨#[79, 80, 84, 73, 79, 78, 65, 76]⟩, .string ⟨#[68, 69, 70, 65, 85, 76, 84]⟩, .string ⟨#[84, 82, 85, 69]⟩, .string ⟨#[70, 65, 76, 83, 69]⟩, .string ⟨#[77, 73, 78]⟩, .string ⟨#[77, 65, 88]⟩, .string ⟨#[69, 88, 67, 69, 80, 84]⟩, .string ⟨#[68, 69, 70, 73, 78, 73, 84, 73, 79, 78, 83]⟩, .string ⟨#[65, 85, 84, 79, 77, 65, 84, 73, 67]⟩, .string ⟨#[84, 65, 71, 83]⟩, .string ⟨#[66, 69, 71, 73, 78]⟩, .string ⟨#[69, 78, 68]⟩, .string ⟨#[73, 77, 80, 79, 82, 84, 83]⟩] 9))) := HB
  generalize w.alloc (.cells #[.string ⟨#[66, 79, 79, 76, 69, 65, 78]⟩, .string ⟨#[73, 78, 84, 69, 71, 69, 82]⟩, .string ⟨#[69, 78, 85, 77, 69, 82, 65, 84, 69, 68]⟩, .string ⟨#[78, 85, 76, 76]⟩, .string ⟨#[66, 73, 84]⟩, .string ⟨#[83, 84, 82, 73, 78, 71]⟩, .string ⟨#[79, 67, 84, 69, 84]⟩, .string ⟨#[73, 65, 53, 83, 116, 114, 105, 110, 103]⟩, .string ⟨#[83, 69, 81, 85, 69, 78, 67, 69]⟩, .string ⟨#[79, 70]⟩, .string ⟨#[67, 72, 79, 73, 67, 69]⟩, .string ⟨#[83, 73, 90, 69]⟩, .string ⟨#[70, 82, 79, 77]⟩, .string ⟨#[79, 80, 84, 73, 79, 78, 65, 76]⟩, .string ⟨#[68, 69, 70, 65, 85, 76, 84]⟩, .string ⟨#[84, 82, 85, 69]⟩, .string ⟨#[70, 65, 76, 83, 69]⟩, .string ⟨#[77, 73, 78]⟩, .string ⟨#[77, 65, 88]⟩, .string ⟨#[69, 88, 67, 69, 80, 84]⟩, .string ⟨#[68, 69, 70, 73, 78, 73, 84, 73, 79, 78, 83]⟩, .string ⟨#[65, 85, 84, 79, 77, 65, 84, 73, 67]⟩, .string ⟨#[84, 65, 71, 83]⟩, .string ⟨#[66, 69, 71, 73, 78]⟩, .string ⟨#[69, 78, 68]⟩, .string ⟨#[73, 77, 80, 79, 82, 84, 83]⟩] 9) = W1 at *
  clear HX HB
  go_loopw [4] (fun iv wr => RelKw s W1 iv wr) (fun iv _ => 26 - (Lib.intOf iv).toNat)
  case atStart => exact ⟨0, Nat.zero_le _, rfl, rfl, rfl⟩
  case round =>
    obtain ⟨i, hi, rfl, hall, rfl⟩ := hrel
    have HA := Lib.hid hall
    clear hall
    by_cases hlt : i < 26
    · have q1 : decide ((i : Int) < 26) = true := decide_eq_true (by omega)
      have q1n : decide (i < 26) = true := decide_eq_true hlt
      have q3 : (i : Int) < 26 := by omega
      have q4 : (0 : Int) ≤ (i : Int) := by omega
      have q5 : IntKind.i64.wrap ((i : Int) + 1) = ((i + 1 : Nat) : Int) := wrap_succ hlt (by omega)
      obtain ⟨y, hy⟩ : ∃ y, kwB.getD i ⟨#[]⟩ = y := ⟨_, rfl⟩
      have c1 : wr.cell? ⟨w.heap.size, i, none⟩ = some (.string y) := by rw [← hy]; exact HX2.out.cell i (kwC_at i hlt)
      have HP := Lib.hid (show kwP s i = !(y.toList == s.toList) by unfold kwP; rw [hy])
      clear hy
      cases hys : (y.toList == s.toList) with
      | true =>
        have HN := Lib.hid (allN_no (f := kwP s) hlt (by rw [HP.out, hys]; rfl))
        obtain rfl : res = true := by have h := HRES.out; rw [HN.out] at h; revert h; cases res <;> decide
        go_wp2_with fail
        go_ret
        exact ⟨rfl, HB2.out⟩
      | false =>
        have HN := Lib.hid (allN_succ (f := kwP s) HA.out (by rw [HP.out, hys]; rfl))
        go_wp2_with fail
        go_roundw
        case rel => exact ⟨i + 1, hlt, rfl, HN.out, rfl⟩
        case measure => simp only [Lib.intOf]; omega
    · have q1 : decide ((i : Int) < 26) = false := decide_eq_false (by omega)
      have q1n : decide (i < 26) = false := decide_eq_false hlt
      obtain rfl : i = 26 := by omega
      obtain rfl : res = false := by have h := HRES.out; rw [HA.out] at h; revert h; cases res <;> decide
      go_wp2_with fail
      go_ret
      exact ⟨rfl, HB2.out⟩
set_option maxHeartbeats 4000000 in
theorem rname_ok (s : ByteArray) (w : World) (hs : s.size ≤ 140737488355328) : Calls Tryz.prog 21 #[.string s] w fun e w' => e = .returned (.bool (refd s)) ∧ Below w.heap.size w w' := by
  have HU := Lib.hid (rupper_ok s w hs)
  have HK := Lib.hid (rkeyword_ok s w)
  have HB0 := Lib.hid (Below.refl w.heap.size w)
  unfold refd
  generalize (isWd s && isUp (tAt (cods s) 0)) = u at *
  generalize kwd s = k at *
  clear hs
  go_enter Tryz.func21, Tryz.ntmps21
  go_wp2_with fail
  refine HU.out.mono ?_
  rintro e w1 ⟨rfl, rfl⟩
  cases u with
  | false =>
    go_wp2_with fail
    go_ret
    exact ⟨rfl, HB0.out⟩
  | true =>
    go_wp2_with fail
    refine HK.out.mono ?_
    rintro e w2 ⟨rfl, hb⟩
    have HB2 := Lib.hid hb
    clear hb
    go_wp2_with fail
    go_ret
    exact ⟨by cases k <;> rfl, HB2.out⟩
set_option maxHeartbeats 4000000 in
theorem rnames_ok (B : Nat) (w : World) (a : Option Addr) (n cap : Nat) (f : Nat → ByteArray) (hB : B ≤ w.heap.size) (hs : SLIn B w ⟨a, n, cap, f⟩) :
    Calls Tryz.prog 70 #[.slice a n cap] w fun e w' => e = .returned (.bool (fewOk (fun i => lowd (f i)) n)) ∧ Below w.heap.size w w' := by
  have hr1 : RowAt B w a n cap 1 (fun i => [.string (f i)]) := hs.1
  have HB0 := Lib.hid (Below.refl w.heap.size w)
  have HSZ := Lib.hid hs.2
  obtain ⟨p, hp⟩ : ∃ p, (fun i => lowd (f i)) = p := ⟨_, rfl⟩
  have HP := Lib.hid (show ∀ i, p i = lowd (f i) from fun i => by rw [← hp])
  rw [hp]
  obtain ⟨res, hr⟩ : ∃ res, fewOk p n = res := ⟨_, rfl⟩
  rw [hr]
  have HRES := Lib.hid (show (decide (n ≤ 256) && allN p n) = res from hr)
  have hn : n ≤ 9223372036854775807 := by have h1 := hr1.1; have h2 := hr1.2.1; omega
  have HR1 := Lib.hid hr1
  have HBB := Lib.hid hB
  clear hs hr1 hB hp hr
  go_enter Tryz.func70, Tryz.ntmps70
  go_wp2_with fail
  go_loopw [3] (fun iv wr => RelEv w n p iv wr) (fun iv _ => n - (Lib.intOf iv).toNat)
  case atStart => exact ⟨0, Nat.zero_le _, rfl, rfl, HB0.out⟩
  case round =>
    obtain ⟨i, hi, rfl, hall, hbel⟩ := hrel
    have HB := Lib.hid hbel
    have HA := Lib.hid hall
    have hsz := hbel.size
    clear hbel hall
    by_cases hlt : i < n
    · have q1 : decide ((i : Int) < (n : Int)) = true := decide_eq_true (by omega)
      have q1n : decide (i < n) = true := decide_eq_true hlt
      have q3 : IntKind.i64.wrap ((i : Int) + 1) = ((i + 1 : Nat) : Int) := wrap_succ hlt hn
      obtain ⟨g1, o1, hix1, hg1, hrd1⟩ := HR1.out.read 35 9 Tryz.underlying35 (by kernel_rfl) Tryz.sizeOf9 hlt
      have k1 : wr.cell? ⟨g1, o1, none⟩ = some (.string (f i)) := hrd1 wr (HB.out.block g1 (by have := HBB.out; omega)) 0 _ rfl
      have HC := Lib.hid (rlower_ok (f i) wr (HSZ.out i hlt))
      have HPI := Lib.hid (show (isWd (f i) && isLo (tAt (cods (f i)) 0)) = p i by rw [HP.out]; rfl)
      rw [HPI.out] at HC
      obtain ⟨x, hx⟩ : ∃ x, f i = x := ⟨_, rfl⟩
      rw [hx] at k1 HC
      clear hx hrd1 HPI
      cases hpi : p i with
      | true =>
        have HN := Lib.hid (allN_succ (f := p) HA.out hpi)
        rw [hpi] at HC
        clear hpi
        go_wp2_with fail
        refine HC.out.mono ?_
        rintro e w1 ⟨rfl, rfl⟩
        go_wp2_with fail
        go_roundw
        case rel => exact ⟨i + 1, hlt, rfl, HN.out, HB.out⟩
        case measure => simp only [Lib.intOf]; omega
      | false =>
        have HN := Lib.hid (allN_no (f := p) hlt hpi)
        rw [hpi] at HC
        obtain rfl : res = false := by rw [← HRES.out, HN.out, Bool.and_false]
        clear hpi
        go_wp2_with fail
        refine HC.out.mono ?_
        rintro e w1 ⟨rfl, rfl⟩
        go_wp2_with fail
        go_ret
        exact ⟨rfl, HB.out⟩
    · have q1 : decide ((i : Int) < (n : Int)) = false := decide_eq_false (by omega)
      have q1n : decide (i < n) = false := decide_eq_false hlt
      obtain rfl : i = n := by omega
      have HF := Lib.hid (show decide (i ≤ 256) = res by rw [← HRES.out, HA.out, Bool.and_true])
      have q6 : decide ((i : Int) ≤ 256) = res := by rw [← HF.out]; exact decide_eq_decide.2 (by omega)
      have q6n := HF.out
      go_wp2_with fail
      go_ret
      exact ⟨rfl, HB.out⟩
end Go.Proofs.YtgmnojnalkhepaaGreatDoor

/-
  The document's whether a value is one that a part may have: 'def'.
-/
namespace Go.Proofs.YtgmnojnalkhepaaGreatDoor
open Go.RowKit
set_option linter.unusedVariables false
set_option linter.unusedSimpArgs false
set_option maxRecDepth 100000

theorem size_zero {s : ByteArray} (h : s.size = 0) : s = ⟨#[]⟩ := by
  apply ByteArray.ext
  exact Array.eq_empty_of_size_eq_zero h
theorem empty_false {s : ByteArray} (h : s.size ≠ 0) : s.toList.isEmpty = false := by
  have := empty_size s
  rw [decide_eq_true h] at this
  simpa using this
theorem lowd_empty : lowd ⟨#[]⟩ = false := by kernel_rfl
set_option maxHeartbeats 8000000 in
theorem rdef_ok (B : Nat) (x : VT) (w : World) (hx : VIn B w x) : Calls Tryz.prog 92 #[.agg x.cells.toArray] w fun e w' => e = .returned (.bool x.dflt) ∧ Below w.heap.size w w' := by
  obtain ⟨kd, m, s, ⟨na, nn, ncap, nf⟩, a, n, cap, ch, rfl⟩ := hx.open
  obtain ⟨⟨hk, hm, hs, _⟩, _, _⟩ := hx
  have hs2 : s.size ≤ 140737488355328 := hs
  have HB0 := Lib.hid ((Below.refl w.heap.size w).alloc (Nat.le_refl _) (.cells #[.int .i64 kd, .int .i64 m, .string s, .slice na nn ncap, .slice a n cap] 44))
  have HL := Lib.hid (fun w => rlower_ok s w hs2)
  have HC := Lib.hid (fun w => rprint_ok s false w hs2)
  rw [prP_chars] at HC
  obtain ⟨r, hr⟩ : ∃ r, (VT.mk kd m s ⟨na, nn, ncap, nf⟩ a n cap ch).dflt = r := ⟨_, rfl⟩
  rw [hr]
  have HR := Lib.hid (show (if kd = 1 then decide (s.size = 0) && (decide (nn = 0) && (decide (n = 0) && decide (m = 0 ∨ m = 1))) else if kd = 2 then decide (s.size = 0) && (decide (nn = 0) && (decide (n = 0) && decide (m ≠ -9223372036854775808))) else if kd = 3 then decide (m = 0) && (decide (s.size ≠ 0) && (decide (nn = 0) && (decide (n = 0) && lowd s))) else if kd = 7 then decide (m = 0) && (decide (nn = 0) && (decide (n = 0) && chars s)) else false) = r from hr)
  clear hk hm hs hs2 hr
  show Calls _ _ #[.agg #[.int .i64 kd, .int .i64 m, .string s, .slice na nn ncap, .slice a n cap]] w _
  by_cases hn1 : nn = 0
  rotate_left
  · have q1 : decide ((0 : Int) < (nn : Int)) = true := decide_eq_true (by omega)
    have q1n : decide (0 < nn) = true := decide_eq_true (by omega)
    obtain rfl : r = false := by rw [← HR.out]; rw [show decide (nn = 0) = false from decide_eq_false hn1]; simp
    clear HR
    go_enter Tryz.func92, Tryz.ntmps92
    go_wp2_with fail
    go_ret
    exact ⟨rfl, HB0.out⟩
  subst hn1
  by_cases hn2 : n = 0
  rotate_left
  · have q1 : decide ((0 : Int) < (n : Int)) = true := decide_eq_true (by omega)
    have q1n : decide (0 < n) = true := decide_eq_true (by omega)
    obtain rfl : r = false := by rw [← HR.out]; rw [show decide (n = 0) = false from decide_eq_false hn2]; simp
    clear HR
    go_enter Tryz.func92, Tryz.ntmps92
    go_wp2_with fail
    go_ret
    exact ⟨rfl, HB0.out⟩
  subst hn2
  by_cases k1 : kd = 1
  · subst k1
    by_cases hz : s.size = 0
    rotate_left
    · have e1 := empty_false hz
      obtain rfl : r = false := by rw [← HR.out]; simp [hz]
      clear HR
      go_enter Tryz.func92, Tryz.ntmps92
      go_wp2_with fail
      go_ret
      exact ⟨rfl, HB0.out⟩
    obtain rfl := size_zero hz
    by_cases m0 : m = 0
    · subst m0
      obtain rfl : r = true := by rw [← HR.out]; rfl
      clear HR
      go_enter Tryz.func92, Tryz.ntmps92
      go_wp2_with fail
      go_ret
      exact ⟨rfl, HB0.out⟩
    have p0 : (m == 0) = false := by simpa using m0
    by_cases m1 : m = 1
    · subst m1
      obtain rfl : r = true := by rw [← HR.out]; rfl
      clear HR
      go_enter Tryz.func92, Tryz.ntmps92
      go_wp2_with fail
      go_ret
      exact ⟨rfl, HB0.out⟩
    have p1 : (m == 1) = false := by simpa using m1
    obtain rfl : r = false := by rw [← HR.out]; simp [m0, m1]
    clear HR
    go_enter Tryz.func92, Tryz.ntmps92
    go_wp2_with fail
    go_ret
    exact ⟨rfl, HB0.out⟩
  by_cases k2 : kd = 2
  · subst k2
    by_cases hz : s.size = 0
    rotate_left
    · have e1 := empty_false hz
      obtain rfl : r = false := by rw [← HR.out]; simp [hz]
      clear HR
      go_enter Tryz.func92, Tryz.ntmps92
      go_wp2_with fail
      go_ret
      exact ⟨rfl, HB0.out⟩
    obtain rfl := size_zero hz
    by_cases m0 : m = -9223372036854775808
    · subst m0
      obtain rfl : r = false := by rw [← HR.out]; rfl
      clear HR
      go_enter Tryz.func92, Tryz.ntmps92
      go_wp2_with fail
      go_ret
      exact ⟨rfl, HB0.out⟩
    have p0 : (m == -9223372036854775808) = false := by simpa using m0
    have p1 : (m != -9223372036854775808) = true := by simpa [bne] using m0
    obtain rfl : r = true := by rw [← HR.out]; simp [m0]; rfl
    clear HR
    go_enter Tryz.func92, Tryz.ntmps92
    go_wp2_with fail
    go_ret
    exact ⟨rfl, HB0.out⟩
  by_cases k3 : kd = 3
  · subst k3
    by_cases m0 : m = 0
    rotate_left
    · have p0 : (m == 0) = false := by simpa using m0
      obtain rfl : r = false := by rw [← HR.out]; simp [m0]
      clear HR
      go_enter Tryz.func92, Tryz.ntmps92
      go_wp2_with fail
      go_ret
      exact ⟨rfl, HB0.out⟩
    subst m0
    have HL2 := Lib.hid (show (isWd s && isLo (tAt (cods s) 0)) = r by
      rw [← HR.out]
      by_cases hz : s.size = 0
      · obtain rfl := size_zero hz
        kernel_rfl
      · simp [hz, lowd])
    rw [HL2.out] at HL
    clear HR HL2
    go_enter Tryz.func92, Tryz.ntmps92
    go_wp2_with fail
    refine (HL.out _).mono ?_
    rintro e w1 ⟨rfl, rfl⟩
    go_wp2_with fail
    go_ret
    exact ⟨rfl, HB0.out⟩
  by_cases k7 : kd = 7
  · subst k7
    by_cases m0 : m = 0
    rotate_left
    · have p0 : (m == 0) = false := by simpa using m0
      obtain rfl : r = false := by rw [← HR.out]; simp [m0]
      clear HR
      go_enter Tryz.func92, Tryz.ntmps92
      go_wp2_with fail
      go_ret
      exact ⟨rfl, HB0.out⟩
    subst m0
    have HL2 := Lib.hid (show chars s = r by rw [← HR.out]; simp)
    rw [HL2.out] at HC
    clear HR HL2
    go_enter Tryz.func92, Tryz.ntmps92
    go_wp2_with fail
    refine (HC.out _).mono ?_
    rintro e w1 ⟨rfl, hb⟩
    have HB1 := Lib.hid (HB0.out.trans (hb.mono HB0.out.size))
    clear hb
    go_wp2_with fail
    go_ret
    exact ⟨rfl, HB1.out⟩
  have p1 : (kd == 1) = false := by simpa using k1
  have p2 : (kd == 2) = false := by simpa using k2
  have p3 : (kd == 3) = false := by simpa using k3
  have p7 : (kd == 7) = false := by simpa using k7
  obtain rfl : r = false := by rw [← HR.out]; rw [if_neg k1, if_neg k2, if_neg k3, if_neg k7]
  clear HR
  go_enter Tryz.func92, Tryz.ntmps92
  go_wp2_with fail
  go_ret
  exact ⟨rfl, HB0.out⟩
end Go.Proofs.YtgmnojnalkhepaaGreatDoor
