/-
  The reference's End, at the start too: the same as the Reader's.
-/
import Derived.Test.YtngflbknddbniaaRef3
import Derived.Test.YtngflbknddbniaaRead2
namespace Go.Proofs.Ytngflbknddbniaa
open Go.RowKit
set_option linter.unusedVariables false
set_option linter.unusedSimpArgs false

theorem zeros_str (B : List Bool) : ((bchars B).toList == [48, 48, 48, 48, 48, 48, 48, 48]) = decide (B = List.replicate 8 false) := by
  rw [ByteArray.toList_eq, bchars_data]
  by_cases h : B = List.replicate 8 false
  · subst h; rfl
  · rw [decide_eq_false h, beq_eq_false_iff_ne]
    intro he
    apply h
    have hl : B.length = 8 := by
      have := congrArg List.length he
      simpa using this
    apply List.ext_getElem
    · simp [hl]
    · intro i h1 h2
      have h3 := congrArg (fun l => l[i]?) he
      simp only [List.getElem?_map, List.getElem?_eq_getElem h1, Option.map_some] at h3
      have h4 : ([48, 48, 48, 48, 48, 48, 48, 48] : List UInt8)[i]? = some 48 := by
        match i, h1 with
        | 0, _ | 1, _ | 2, _ | 3, _ | 4, _ | 5, _ | 6, _ | 7, _ => rfl
        | i + 8, h1 => omega
      rw [h4] at h3
      rw [List.getElem_replicate]
      generalize B[i] = t at *
      cases t
      · rfl
      · exact absurd h3 (by decide)
set_option maxHeartbeats 1000000 in
theorem rrend_zero (w : World) (b : Nat) (B : List Bool) (h : QAt w b B 0) (hB : B.length ≤ 10000000000) (t : Bool) (ht : decide (B = List.replicate 8 false) = t) (r : Int) (hr : r = if t = true then 0 else 3) :
    Calls Try.prog 36 #[.pointer (some ⟨b, 0, none⟩)] w fun e w' => e = .returned (.int .i64 r) ∧ Still w w' := by
  have hs := h.str
  have hp : w.cell? ⟨b, 1, none⟩ = some (.int .i64 0) := h.pos
  have hsz := bchars_size B
  have hz := zeros_str B
  rw [ht] at hz
  clear h ht
  cases t
  · obtain rfl : r = 3 := hr
    obtain ⟨m, hm⟩ : ∃ m, B.length = m := ⟨_, rfl⟩
    rw [hm] at hsz
    have hw : IntKind.i64.wrap ((m : Int)) = (m : Int) := by rw [IntKind.wrap_i64]; omega
    by_cases h8 : 8 ≤ m
    · have hq : decide ((8 : Int) ≤ (m : Int)) = true := decide_eq_true (by omega)
      clear hm
      go_enter Try.func36, Try.ntmps36
      go_wp2_with fail
      go_quiet (fail)
      go_wp2_with fail
      go_ret
      exact ⟨rfl, ⟨rfl, rfl, rfl, rfl⟩⟩
    · have hq : decide ((8 : Int) ≤ (m : Int)) = false := decide_eq_false (by omega)
      clear hm
      go_enter Try.func36, Try.ntmps36
      go_wp2_with fail
      go_quiet (fail)
      go_wp2_with fail
      go_ret
      exact ⟨rfl, ⟨rfl, rfl, rfl, rfl⟩⟩
  · obtain rfl : r = 0 := hr
    go_enter Try.func36, Try.ntmps36
    go_wp2_with fail
    go_ret
    exact ⟨rfl, Still.refl w⟩
/-- what End tells -/
def endE (L : List Nat) (p : Nat) : Int := if endB L p = true then 0 else 3
theorem end_any (w : World) (b : Nat) {s : Value} (L : List Nat) (p : Nat) (h : RdAt w b s L p) (hL : L.length ≤ 10000000000) :
    Calls Try.prog 35 #[.pointer (some ⟨b, 0, none⟩)] w fun e w' => e = .returned (.int .i64 (endE L p)) ∧ Still w w' := end_ok w b L p h hL
theorem zeros_iff (B : List Bool) (h : B.length = 8) : allz B 0 8 = decide (B = List.replicate 8 false) := by
  by_cases hz : B = List.replicate 8 false
  · subst hz; rfl
  · rw [decide_eq_false hz]
    by_cases ha : allz B 0 8 = true
    · exfalso
      apply hz
      apply List.ext_getElem
      · simp [h]
      · intro i h1 h2
        rw [List.getElem_replicate]
        unfold allz at ha
        have h3 := List.all_eq_true.1 ha i (by simp; omega)
        simpa [List.getD_eq_getElem?_getD, h1] using h3
    · simpa using ha
theorem rrend_any (w : World) (b : Nat) (L : List Nat) (p : Nat) (h : QAt w b (bitsOf L) p) (hL : L.length ≤ 1000000000) :
    Calls Try.prog 36 #[.pointer (some ⟨b, 0, none⟩)] w fun e w' => e = .returned (.int .i64 (endE L p)) ∧ Still w w' := by
  have hl := bitsOf_length L
  have hle := h.2
  by_cases h0 : p = 0
  · subst h0
    refine rrend_zero w b _ h (by omega) _ rfl _ ?_
    unfold endE endB
    by_cases hn : L = []
    · subst hn; rfl
    · rw [if_neg hn]
      by_cases h1 : L.length = 1
      · have e : (if (if (0 : Nat) = 0 then 8 else 7) < 8 * L.length - 0 then false else allz (bitsOf L) 0 (8 * L.length - 0)) = allz (bitsOf L) 0 8 := by
          rw [if_neg (by rw [if_pos rfl]; omega), h1]
        rw [e, zeros_iff _ (by omega)]
      · have hpos : 0 < L.length := by cases L <;> simp_all
        have e : (if (if (0 : Nat) = 0 then 8 else 7) < 8 * L.length - 0 then false else allz (bitsOf L) 0 (8 * L.length - 0)) = false := by
          rw [if_pos (by rw [if_pos rfl]; omega)]
        have e2 : decide (bitsOf L = List.replicate 8 false) = false := decide_eq_false fun hh => by
          have := congrArg List.length hh
          simp at this
          omega
        rw [e, e2]
  · have hne : L ≠ [] := by rintro rfl; have : (bitsOf []).length = 0 := rfl; omega
    unfold endE endB
    rw [if_neg hne, if_neg h0]
    by_cases h8 : 8 ≤ (bitsOf L).length - p
    · rw [if_pos (show 7 < 8 * L.length - p by omega)]
      exact rrend_far w b _ p h (by omega) (by omega) h8
    · rw [if_neg (show ¬ 7 < 8 * L.length - p by omega)]
      refine rrend_late w b _ p h (by omega) (by omega) (by omega) _ ?_
      rw [hl]
end Go.Proofs.Ytngflbknddbniaa
