/-
  Package strings: the program and the document read alike: what both tell, together.
-/
import Derived.Test.YtbpfggkpfaobhaaGreatStRefI
import Derived.Test.YtbpfggkpfaobhaaGreatStLaw
namespace Go.Proofs.YtbpfggkpfaobhaaGreat
open Go.RowKit Go.Shelf
set_option linter.unusedVariables false
set_option linter.unusedSimpArgs false
set_option maxRecDepth 100000

theorem pair_octs (L : List Nat) (p : Nat) (al : Bool) (lo hi : Int) (hL : L.length ≤ 2000) (b2 : -9223372036854775808 ≤ lo ∧ lo ≤ 9223372036854775807) (b3 : -9223372036854775808 ≤ hi ∧ hi ≤ 9223372036854775807) :
    ∃ (E : Int) (l : List Nat) (q q' : Nat), (E = 0 → q = q') ∧
      (∀ (w : World) (r : Nat) (s : Value), RdAt w r s L p → Calls Tryz.prog 10 #[.pointer (some ⟨r, 0, none⟩), .bool al, .int .i64 lo, .int .i64 hi] w fun e w' => ∃ v, e = .returned (.tuple #[v, .int .i64 E]) ∧ SlAt w' v l ∧ RdAt w' r s L q ∧ Only r w w') ∧
      (∀ (w : World) (b : Nat), QAt w b (bitsOf L) p → Calls Tryz.prog 11 #[.pointer (some ⟨b, 0, none⟩), .bool al, .int .i64 lo, .int .i64 hi] w fun e w' => ∃ v, e = .returned (.tuple #[v, .int .i64 E]) ∧ SlAt w' v l ∧ QAt w' b (bitsOf L) q' ∧ Only b w w') := by
  obtain ⟨h1, h2, h3⟩ := same_rS (al := al) (tx := false) (k := 8) (L := L) (p := p) (lo := lo) (hi := hi) (octs_same L)
  refine ⟨_, _, _, _, fun h => h3 (h1.trans h), ?_, fun w b hq => rgetOctets_ok w b L p al lo hi hq hL b2 b3⟩
  intro w r s hr
  refine (sgetOctets_ok w r s L p al lo hi hr (by omega) b2 b3 (last_of hL (.inr fun n q hn => oGo_few hL n q hn))).mono ?_
  rintro e w' ⟨v, rfl, h4, h5, h6⟩
  rw [h2] at h4
  exact ⟨v, by rw [h1], h4.sl, h5, h6⟩
theorem pair_bits (L : List Nat) (p : Nat) (al : Bool) (lo hi : Int) (hL : L.length ≤ 2000) (b2 : -9223372036854775808 ≤ lo ∧ lo ≤ 9223372036854775807) (b3 : -9223372036854775808 ≤ hi ∧ hi ≤ 9223372036854775807) :
    ∃ (E : Int) (S : ByteArray) (q q' : Nat), (E = 0 → q = q') ∧
      (∀ (w : World) (r : Nat) (s : Value), RdAt w r s L p → Calls Tryz.prog 14 #[.pointer (some ⟨r, 0, none⟩), .bool al, .int .i64 lo, .int .i64 hi] w fun e w' => e = .returned (.tuple #[.string S, .int .i64 E]) ∧ RdAt w' r s L q ∧ Only r w w') ∧
      (∀ (w : World) (b : Nat), QAt w b (bitsOf L) p → Calls Tryz.prog 15 #[.pointer (some ⟨b, 0, none⟩), .bool al, .int .i64 lo, .int .i64 hi] w fun e w' => e = .returned (.tuple #[.string S, .int .i64 E]) ∧ QAt w' b (bitsOf L) q' ∧ Only b w w') :=
  ⟨_, _, _, _, fun _ => rfl, fun w r s hr => sgetBits_ok w r s L p al lo hi hr (by omega) b2 b3 (last_of hL (.inr fun n q hn => uGo_few hL (by decide) (by decide) n q hn)), fun w b hq => rgetBits_ok w b L p al lo hi hq hL b2 b3⟩
theorem wid_pos {n : Nat} (h1 : 1 ≤ n) (h2 : n < 2 ^ 64) : 1 ≤ wid n := by
  have h := wid_lt n h2
  by_cases h0 : wid n = 0
  · rw [h0] at h
    omega
  · omega
theorem wdT_pos {l : List Nat} (h : isAl l = true) (h1 : l.length ≠ 1) (al : Bool) : 1 ≤ wdT l al := by
  have hp := sp_pos l
  have h128 := al_len (sp_al h)
  have h2 : 2 ≤ (sp l).length := by
    by_cases e : l = []
    · rw [e]; decide
    · have : 0 < l.length := List.length_pos_iff.2 e
      rw [sp_ne this]
      omega
  have h3 : 1 ≤ wid ((sp l).length - 1) := wid_pos (by omega) (by omega)
  have h7 := widA7 h
  unfold wdT
  rw [if_pos h]
  split
  · exact Nat.le_trans h3 (wdA_le _ (by omega)).1
  · exact h3
theorem pair_texts (L : List Nat) (p : Nat) (al : Bool) (fr : ByteArray) (lo hi : Int) (hL : L.length ≤ 2000) (hfr : fr.size ≤ 1000000) (hk : fr.size ≠ 1 ∨ (0 ≤ hi ∧ hi ≤ 65535)) (b2 : -9223372036854775808 ≤ lo ∧ lo ≤ 9223372036854775807) (b3 : -9223372036854775808 ≤ hi ∧ hi ≤ 9223372036854775807) :
    ∃ (E : Int) (S : ByteArray) (q q' : Nat), (E = 0 → q = q') ∧
      (∀ (w : World) (r : Nat) (s : Value), RdAt w r s L p → Calls Tryz.prog 16 #[.pointer (some ⟨r, 0, none⟩), .bool al, .string fr, .int .i64 lo, .int .i64 hi] w fun e w' => e = .returned (.tuple #[.string S, .int .i64 E]) ∧ RdAt w' r s L q ∧ Only r w w') ∧
      (∀ (w : World) (b : Nat), QAt w b (bitsOf L) p → Calls Tryz.prog 17 #[.pointer (some ⟨b, 0, none⟩), .bool al, .string fr, .int .i64 lo, .int .i64 hi] w fun e w' => e = .returned (.tuple #[.string S, .int .i64 E]) ∧ QAt w' b (bitsOf L) q' ∧ Only b w w') := by
  cases hA : isAl (cods fr) with
  | false =>
    refine ⟨1, ⟨#[]⟩, p, p, fun _ => rfl, fun w r s hr => sgetText_arg w r s L p al fr lo hi hr (by omega) (.inr hA), fun w b hq => ?_⟩
    refine (rgetText_arg w b al fr lo hi hfr hA).mono ?_
    rintro e w' ⟨rfl, h⟩
    exact ⟨rfl, hq.below h, Only.of_below h⟩
  | true =>
    have hm : Last al true (wdT (cods fr) al) (fun n p => uGo L (wdT (cods fr) al) n p []) L p lo hi := last_of hL (by
      rcases hk with h | h
      · exact .inr fun n q hn => uGo_few hL (Nat.le_trans (wdT_le _ _) (by decide)) (wdT_pos hA (by rw [cods_length]; exact h) al) n q hn
      · exact .inl h)
    have hR := fun (w : World) (b : Nat) (hq : QAt w b (bitsOf L) p) => rgetText_ok w b L p al fr lo hi hq hfr hA hL b2 b3 _ rfl _ rfl _ rfl hm
    by_cases hb : lBad lo hi
    · rw [rS_bad hb] at hR
      exact ⟨1, ⟨#[]⟩, p, p, fun _ => rfl, fun w r s hr => sgetText_arg w r s L p al fr lo hi hr (by omega) (.inl hb), hR⟩
    · exact ⟨_, _, _, _, fun _ => rfl, fun w r s hr => sgetText_ok w r s L p al fr lo hi hr (by omega) hA hb (by omega) b2 b3 _ rfl _ rfl _ rfl hm, hR⟩
/-- some truth -/
def AnyB (e : Ending) : Prop := ∃ b : Bool, e = .returned (.bool b)
theorem sfits_ok (lo hi : Int) (w : World) : Calls Tryz.prog 5 #[.int .i64 lo, .int .i64 hi] w fun e w' => AnyB e ∧ w = w' := by
  by_cases h : lo = hi
  · subst h
    have q1 : (lo == lo) = true := by simp
    have q0 : (lo != lo) = false := by simp
    by_cases h2 : lo ≤ 2000
    · have q2 : decide (lo ≤ 2000) = true := decide_eq_true h2
      go_enter Tryz.func5, Tryz.ntmps5
      go_wp2_with fail
      go_ret
      exact ⟨⟨_, rfl⟩, rfl⟩
    · have q2 : decide (lo ≤ 2000) = false := decide_eq_false h2
      by_cases h3 : 65535 < lo
      · have q3 : decide (65535 < lo) = true := decide_eq_true h3
        go_enter Tryz.func5, Tryz.ntmps5
        go_wp2_with fail
        go_ret
        exact ⟨⟨_, rfl⟩, rfl⟩
      · have q3 : decide (65535 < lo) = false := decide_eq_false h3
        go_enter Tryz.func5, Tryz.ntmps5
        go_wp2_with fail
        go_ret
        exact ⟨⟨_, rfl⟩, rfl⟩
  · have q1 : (lo == hi) = false := by simpa using h
    have q0 : (lo != hi) = true := by simpa using h
    have q2 : decide (lo = hi) = false := decide_eq_false h
    clear h
    go_enter Tryz.func5, Tryz.ntmps5
    go_wp2_with fail
    go_ret
    exact ⟨⟨_, rfl⟩, rfl⟩
end Go.Proofs.YtbpfggkpfaobhaaGreat
