import Derived.Test.YtbpfggkpfaobhaaGreatM1
import Derived.ArgAppend
import Derived.WalkSpells
/-
  What a Reader is in memory ('RdAt': its octets and its position), and its methods in these words.
-/
namespace Go.Proofs.YtbpfggkpfaobhaaGreat
open Go.RowKit
set_option linter.unusedVariables false
set_option linter.unusedSimpArgs false
set_option maxRecDepth 100000

/-- memory is as it was (draws apart) -/
structure Still (w w' : World) : Prop where
  heap : w'.heap = w.heap
  os : w'.os = w.os
  tape : w'.tape = w.tape
  output : w'.output = w.output
theorem Still.refl (w : World) : Still w w := ⟨rfl, rfl, rfl, rfl⟩
theorem Still.drew {w w' : World} (h : Still w w') : Still w w'.drew := ⟨h.heap, h.os, h.tape, h.output⟩
theorem Still.trans {x y z : World} (h : Still x y) (k : Still y z) : Still x z := ⟨k.heap.trans h.heap, k.os.trans h.os, k.tape.trans h.tape, k.output.trans h.output⟩
theorem Still.below {w w' : World} (h : Still w w') (B : Nat) : Below B w w' := ⟨h.os, h.tape, h.output, by rw [h.heap]; exact Nat.le_refl _, fun k _ => by rw [h.heap]⟩
theorem Still.only {w w' : World} (h : Still w w') (b : Nat) : Only b w w' := Only.of_below (h.below _)

/-- octets in an array of octets -/
def OwnAt (w : World) (s : Value) (l : List Nat) : Prop :=
  (l ≠ [] ∧ ∃ g o cap cs fr, s = .slice (some ⟨g, o, none⟩) l.length cap ∧ w.heap[g]? = some (.cells cs 5 fr) ∧ DataAt w g o l) ∨ (l = [] ∧ ∃ a cap, s = .slice a 0 cap)
theorem OwnAt.sl {w : World} {s : Value} {l : List Nat} (h : OwnAt w s l) : SlAt w s l := by
  rcases h with ⟨_, g, o, cap, cs, fr, e, _, hd⟩ | h
  · exact .inl ⟨g, o, cap, e, hd⟩
  · exact .inr h
/-- only a block that is no array of octets has changed -/
theorem OwnAt.keep {w w' : World} {s : Value} {l : List Nat} {b : Nat} (h : OwnAt w s l) (ho : Only b w w') (hb : ∀ cs fr, w.heap[b]? ≠ some (.cells cs 5 fr)) : OwnAt w' s l := by
  rcases h with ⟨h0, g, o, cap, cs, fr, e, hg, hd⟩ | h
  · have hne : g ≠ b := by rintro rfl; exact hb _ _ hg
    exact .inl ⟨h0, g, o, cap, cs, fr, e, (ho.block g (Array.getElem?_eq_some_iff.1 hg).1 hne).trans hg, hd.keep ho hne⟩
  · exact .inr h
theorem OwnAt.below {w w' : World} {s : Value} {l : List Nat} (h : OwnAt w s l) (ho : Below w.heap.size w w') : OwnAt w' s l := by
  rcases h with ⟨h0, g, o, cap, cs, fr, e, hg, hd⟩ | h
  · exact .inl ⟨h0, g, o, cap, cs, fr, e, (ho.block g (Array.getElem?_eq_some_iff.1 hg).1).trans hg, hd.below ho⟩
  · exact .inr h

/-- block b is a Reader of the octets L that has read p bits -/
def RdAt (w : World) (b : Nat) (s : Value) (L : List Nat) (p : Nat) : Prop :=
  w.heap[b]? = some (.cells #[s, .int .i64 p] 58 (0, 0)) ∧ OwnAt w s L ∧ p ≤ 8 * L.length
theorem RdAt.lt {w : World} {b : Nat} {s : Value} {L : List Nat} {p : Nat} (h : RdAt w b s L p) : b < w.heap.size := by
  obtain ⟨hs, _⟩ := h
  exact (Array.getElem?_eq_some_iff.1 hs).1
theorem RdAt.le {w : World} {b : Nat} {s : Value} {L : List Nat} {p : Nat} (h : RdAt w b s L p) : p ≤ 8 * L.length := by
  obtain ⟨_, _, h⟩ := h
  exact h
theorem RdAt.no_u8 {w : World} {b : Nat} {s : Value} {L : List Nat} {p : Nat} (h : RdAt w b s L p) : ∀ cs fr, w.heap[b]? ≠ some (.cells cs 5 fr) := by
  intro cs fr e
  obtain ⟨hs, _⟩ := h
  rw [hs] at e
  injection e with e
  injection e with h1 h2 h3
  exact absurd h2 (by decide)
theorem WrAt.no_u8 {w : World} {b : Nat} {B : List Bool} (h : WrAt w b B) : ∀ cs fr, w.heap[b]? ≠ some (.cells cs 5 fr) := by
  intro cs fr e
  obtain ⟨s, hs, _⟩ := h
  rw [hs] at e
  unfold wrObj at e
  injection e with e
  injection e with h1 h2 h3
  exact absurd h2 (by decide)
theorem RdAt.below {w w' : World} {b : Nat} {s : Value} {L : List Nat} {p : Nat} (h : RdAt w b s L p) (ho : Below w.heap.size w w') : RdAt w' b s L p := by
  have hlt := h.lt
  obtain ⟨hs, hd, hp⟩ := h
  exact ⟨(ho.block b hlt).trans hs, hd.below ho, hp⟩
theorem RdAt.still {w w' : World} {b : Nat} {s : Value} {L : List Nat} {p : Nat} (h : RdAt w b s L p) (ho : Still w w') : RdAt w' b s L p := h.below (ho.below _)
theorem RdAt.keep {w w' : World} {b b' : Nat} {s : Value} {L : List Nat} {p : Nat} (h : RdAt w b s L p) (ho : Only b' w w') (hb : b ≠ b') (hn : ∀ cs fr, w.heap[b']? ≠ some (.cells cs 5 fr)) : RdAt w' b s L p := by
  have hlt := h.lt
  obtain ⟨hs, hd, hp⟩ := h
  exact ⟨(ho.block b hlt hb).trans hs, hd.keep ho hn, hp⟩
theorem RdAt.pos {w : World} {b : Nat} {s : Value} {L : List Nat} {p : Nat} (h : RdAt w b s L p) : w.cell? ⟨b, 1, none⟩ = some (.int .i64 p) := by
  obtain ⟨hs, _⟩ := h
  rw [cell_of_row w b 1 _ _ _ hs]; rfl
theorem RdAt.free {w : World} {b : Nat} {s : Value} {L : List Nat} {p : Nat} (h : RdAt w b s L p) (j : Nat) : w.frozen? ⟨b, j, none⟩ = false := by
  obtain ⟨hs, _⟩ := h
  exact frozen_of_row w b j _ _ hs
theorem RdAt.sl {w : World} {b : Nat} {s : Value} {L : List Nat} {p : Nat} (h : RdAt w b s L p) : ∃ a cap, w.cell? ⟨b, 0, none⟩ = some (.slice a L.length cap) ∧ OwnAt w (.slice a L.length cap) L := by
  obtain ⟨hs, hd, _⟩ := h
  have hc : w.cell? ⟨b, 0, none⟩ = some s := by rw [cell_of_row w b 0 _ _ _ hs]; rfl
  have hd' := hd
  rcases hd with ⟨_, g, o, cap, cs, fr, e, _, _⟩ | ⟨e0, a, cap, e⟩
  · subst e; exact ⟨_, _, hc, hd'⟩
  · subst e; subst e0; exact ⟨_, _, hc, hd'⟩
theorem RdAt.octet {w : World} {b : Nat} {s : Value} {L : List Nat} {p : Nat} (h : RdAt w b s L p) (hL : L ≠ []) : ∃ g o cap, w.cell? ⟨b, 0, none⟩ = some (.slice (some ⟨g, o, none⟩) L.length cap) ∧ DataAt w g o L := by
  obtain ⟨hs, hd, _⟩ := h
  have hc : w.cell? ⟨b, 0, none⟩ = some s := by rw [cell_of_row w b 0 _ _ _ hs]; rfl
  rcases hd with ⟨_, g, o, cap, cs, fr, e, _, hd⟩ | ⟨e0, _⟩
  · subst e; exact ⟨_, _, _, hc, hd⟩
  · exact absurd e0 hL
/-- the position moves on -/
theorem RdAt.move {w : World} {b : Nat} {s : Value} {L : List Nat} {p : Nat} (h : RdAt w b s L p) (q : Nat) (hq : q ≤ 8 * L.length) : RdAt (w.setCell ⟨b, 1, none⟩ (.int .i64 q)) b s L q := by
  have hn := h.no_u8
  obtain ⟨hs, hd, _⟩ := h
  exact ⟨heap_setCell_same w b 1 _ _ _ hs, hd.keep (Only.setCell 1 _) hn, hq⟩

theorem RdAt.move' {w : World} {b : Nat} {s : Value} {L : List Nat} {p : Nat} (h : RdAt w b s L p) {z : Int} (q : Nat) (hz : z = q) (hq : q ≤ 8 * L.length) :
    RdAt (w.setCell ⟨b, 1, none⟩ (.int .i64 z)) b s L q ∧ Only b w (w.setCell ⟨b, 1, none⟩ (.int .i64 z)) := by
  subst hz
  exact ⟨h.move q hq, Only.setCell 1 _⟩
/-- a store into an array of octets that is not its own -/
theorem RdAt.other {w : World} {b : Nat} {s : Value} {L : List Nat} {p : Nat} (h : RdAt w b s L p) (g j : Nat) (v : Value) (hb : b ≠ g) (hg : ∀ g' o cap, s = .slice (some ⟨g', o, none⟩) L.length cap → L ≠ [] → g' ≠ g) : RdAt (w.setCell ⟨g, j, none⟩ v) b s L p := by
  have hlt := h.lt
  obtain ⟨hs, hd, hp⟩ := h
  refine ⟨((Only.setCell j v).block b hlt hb).trans hs, ?_, hp⟩
  rcases hd with ⟨h0, g', o, cap, cs, fr, e, hgg, hdd⟩ | h
  · have hne := hg g' o cap e h0
    exact .inl ⟨h0, g', o, cap, cs, fr, e, ((Only.setCell j v).block g' (Array.getElem?_eq_some_iff.1 hgg).1 hne).trans hgg, hdd.keep (Only.setCell j v) hne⟩
  · exact .inr h
theorem RdAt.data_lt {w : World} {b : Nat} {s : Value} {L : List Nat} {p : Nat} (h : RdAt w b s L p) : ∀ g' o cap, s = .slice (some ⟨g', o, none⟩) L.length cap → L ≠ [] → g' < w.heap.size := by
  intro g' o cap e hne
  exact sl_lt h.2.1.sl e hne
theorem left_ok (w : World) (b : Nat) {s : Value} (L : List Nat) (p : Nat) (h : RdAt w b s L p) (hL : L.length ≤ 10000000000) :
    Calls Tryz.prog 27 #[.pointer (some ⟨b, 0, none⟩)] w fun e w' => e = .returned (.int .i64 ((8 * L.length - p : Nat) : Int)) ∧ Still w w' := by
  have hp := h.pos
  have hle := h.le
  obtain ⟨a, cap, hs, _⟩ := h.sl
  clear h
  go_enter Tryz.func27, Tryz.ntmps27
  go_wp2
  go_region
  all_goals go_wp2
  all_goals go_ret
  all_goals exact ⟨rint (by omega), (Still.refl _).drew⟩

theorem getD_bits (L : List Nat) (i : Nat) (hi : i < 8 * L.length) : (bitsOf L).getD i false = (L.getD (i / 8) 0).testBit (7 - i % 8) := by
  have e : i = 8 * (i / 8) + i % 8 := by omega
  rw [e, bitsOf_getD L _ _ (by omega) (by omega)]
  congr 1
  · congr 1; omega
  · omega
theorem and1_u8 (z s : Nat) (hz : z < 256) : bits BinOp.and IntKind.u8 ((z : Int) / 2 ^ s) 1 = ((z.testBit s).toNat : Nat) := by
  have h1 : z / 2 ^ s < 256 := Nat.lt_of_le_of_lt (Nat.div_le_self _ _) hz
  have e1 : ((z : Int) / 2 ^ s) = ((z / 2 ^ s : Nat) : Int) := by rw [Int.natCast_ediv, Int.natCast_pow]; rfl
  rw [e1, show (1 : Int) = ((1 : Nat) : Int) from rfl, u8_and_nat _ _ h1 (by omega)]
  have := bit_one z s
  rw [Nat.mod_eq_of_lt h1] at this
  rw [this]
theorem bit_ok (w : World) (b : Nat) {s : Value} (L : List Nat) (p i : Nat) (h : RdAt w b s L p) (hL : L.length ≤ 10000000000) (hi : p + i < 8 * L.length) :
    Calls Tryz.prog 28 #[.pointer (some ⟨b, 0, none⟩), .int .i64 i] w fun e w' => e = .returned (.int .u8 (((bitsOf L).getD (p + i) false).toNat : Nat)) ∧ w = w' := by
  have hp := h.pos
  obtain ⟨g, o, cap, hs, hd⟩ := h.octet (by rintro rfl; simp at hi)
  have hc := hd.cell ((p + i) / 8) (by omega)
  have hb8 := hd.byte ((p + i) / 8)
  obtain ⟨z, hz⟩ : ∃ z, L.getD ((p + i) / 8) 0 = z := ⟨_, rfl⟩
  rw [hz] at hc hb8
  have HZ := Lib.hid hz
  clear h hd hz
  go_enter Tryz.func28, Tryz.ntmps28
  go_wp2
  go_ret
  refine ⟨rint ?_, rfl⟩
  rw [and1_u8 z _ hb8, getD_bits L _ hi, HZ.out]

/-- are the n bits from p on all 0? -/
def allz (B : List Bool) (p n : Nat) : Bool := (List.range n).all fun i => !(B.getD (p + i) false)
theorem allz_true {B : List Bool} {p n : Nat} (h : ∀ i, i < n → B.getD (p + i) false = false) : allz B p n = true := by
  unfold allz
  rw [List.all_eq_true]
  intro i hi
  rw [h i (by simpa using hi)]
  rfl
theorem allz_false {B : List Bool} {p n i : Nat} (hi : i < n) (h : B.getD (p + i) false = true) : allz B p n = false := by
  unfold allz
  rw [List.all_eq_false]
  exact ⟨i, by simpa using hi, by rw [h]; simp⟩
theorem zeros_ok (w : World) (b : Nat) {s : Value} (L : List Nat) (p n : Nat) (h : RdAt w b s L p) (hL : L.length ≤ 10000000000) (hn : p + n ≤ 8 * L.length) :
    Calls Tryz.prog 83 #[.pointer (some ⟨b, 0, none⟩), .int .i64 n] w fun e w' => e = .returned (.bool (allz (bitsOf L) p n)) ∧ w = w' := by
  have HR := Lib.hid h
  clear h
  go_enter Tryz.func83, Tryz.ntmps83
  go_wp2_with fail
  go_loop [7] (fun i => ∃ j : Nat, j ≤ n ∧ i = .int .i64 j ∧ ∀ k, k < j → (bitsOf L).getD (p + k) false = false) (fun i => n - (intOf i).toNat)
  case atStart => exact ⟨0, Nat.zero_le _, rfl, fun k hk => absurd hk (by omega)⟩
  case round =>
    obtain ⟨j, hj, rfl, hz⟩ := hrel
    have HZ := Lib.hid hz
    clear hz
    by_cases hlt : j < n
    · have hc := bit_ok w b L p j HR.out hL (by omega)
      cases hb : (bitsOf L).getD (p + j) false with
      | false =>
        rw [hb] at hc
        have HB := Lib.hid hb
        have HC := Lib.hid hc
        clear hb hc
        go_wp2_with (go_at_call 28; refine HC.out.mono ?_; rintro e w' ⟨rfl, rfl⟩)
        go_round
        case rel =>
          refine ⟨j + 1, by omega, by go_num, fun k hk => ?_⟩
          rcases Nat.lt_or_ge k j with h | h
          · exact HZ.out k h
          · obtain rfl : k = j := by omega
            exact HB.out
        case measure => simp [intOf]; omega
      | true =>
        rw [hb] at hc
        have HB := Lib.hid hb
        have HC := Lib.hid hc
        clear hb hc
        go_wp2_with (go_at_call 28; refine HC.out.mono ?_; rintro e w' ⟨rfl, rfl⟩)
        go_ret
        exact ⟨rbool (allz_false hlt HB.out).symm, rfl⟩
    · obtain rfl : j = n := by omega
      go_wp2_with fail
      go_ret
      exact ⟨rbool (allz_true HZ.out).symm, rfl⟩

/-- the number that the k bits from p on are -/
def bitsAt (B : List Bool) (p k : Nat) : Nat := num ((B.drop p).take k)
theorem bitsAt_succ (B : List Bool) (p k : Nat) (h : p + k < B.length) : bitsAt B p (k + 1) = 2 * bitsAt B p k + (B.getD (p + k) false).toNat := by
  unfold bitsAt
  rw [List.take_succ_eq_append_getElem (by rw [List.length_drop]; omega), num_snoc, List.getElem_drop]
  simp [List.getD_eq_getElem?_getD, h]
theorem bitsAt_lt (B : List Bool) (p k : Nat) (h : p + k ≤ B.length) : bitsAt B p k < 2 ^ k := by
  have := num_lt ((B.drop p).take k)
  rwa [List.length_take, List.length_drop, Nat.min_eq_left (by omega)] at this
theorem bitsAt_testBit (B : List Bool) (p k i : Nat) (h : p + k ≤ B.length) : (bitsAt B p k).testBit i = (decide (i < k) && B.getD (p + (k - 1 - i)) false) := by
  unfold bitsAt
  rw [num_testBit, List.length_take, List.length_drop, Nat.min_eq_left (by omega)]
  by_cases hi : i < k
  · simp only [hi, decide_true, Bool.true_and]
    rw [List.getD_eq_getElem?_getD, List.getElem?_take, if_pos (by omega), List.getElem?_drop, List.getD_eq_getElem?_getD]
  · simp [hi]

theorem octet_num (L : List Nat) (p : Nat) (h : p + 8 ≤ 8 * L.length) (z y : Nat) (hz : L.getD (p / 8) 0 = z) (hz8 : z < 256) (hy : 0 < p % 8 → L.getD (p / 8 + 1) 0 = y) (hy8 : y < 256) :
    bitsAt (bitsOf L) p 8 = (z * 2 ^ (p % 8) % 256) ||| (if p % 8 = 0 then 0 else y / 2 ^ (8 - p % 8)) := by
  apply Nat.eq_of_testBit_eq
  intro i
  rw [bitsAt_testBit _ _ _ _ (by rw [bitsOf_length]; omega), Nat.testBit_or, show 256 = 2 ^ 8 from rfl, Nat.testBit_mod_two_pow, Nat.testBit_mul_two_pow]
  have hzb : ∀ j, 8 ≤ j → z.testBit j = false := fun j hj => Nat.testBit_lt_two_pow (Nat.lt_of_lt_of_le hz8 (by have := Nat.pow_le_pow_right (n := 2) (by omega) hj; simpa using this))
  have hyb : ∀ j, 8 ≤ j → y.testBit j = false := fun j hj => Nat.testBit_lt_two_pow (Nat.lt_of_lt_of_le hy8 (by have := Nat.pow_le_pow_right (n := 2) (by omega) hj; simpa using this))
  by_cases hi : i < 8
  · simp only [hi, decide_true, Bool.true_and]
    rw [getD_bits L _ (by omega)]
    rcases Nat.lt_or_ge i (p % 8) with h1 | h1
    · have e1 : (p + (8 - 1 - i)) / 8 = p / 8 + 1 := by omega
      have e2 : 7 - (p + (8 - 1 - i)) % 8 = i + (8 - p % 8) := by omega
      rw [e1, e2, hy (by omega), if_neg (by omega), Nat.testBit_div_two_pow]
      have : ¬ p % 8 ≤ i := by omega
      simp [this]
    · have e1 : (p + (8 - 1 - i)) / 8 = p / 8 := by omega
      have e2 : 7 - (p + (8 - 1 - i)) % 8 = i - p % 8 := by omega
      rw [e1, e2, hz]
      split
      · simp [h1]
      · rw [Nat.testBit_div_two_pow, hyb _ (by omega)]
        simp [h1]
  · simp only [hi, decide_false, Bool.false_and, Bool.false_or]
    split
    · simp
    · rw [Nat.testBit_div_two_pow, hyb _ (by omega)]
theorem octet_ok (w : World) (b : Nat) {s : Value} (L : List Nat) (p : Nat) (h : RdAt w b s L p) (hL : L.length ≤ 10000000000) (hi : p + 8 ≤ 8 * L.length) :
    Calls Tryz.prog 54 #[.pointer (some ⟨b, 0, none⟩)] w fun e w' => e = .returned (.int .u8 (bitsAt (bitsOf L) p 8 : Nat)) ∧ RdAt w' b s L (p + 8) ∧ Only b w w' := by
  have hp := h.pos
  have hf := h.free 1
  obtain ⟨g, o, cap, hs, hd⟩ := h.octet (by rintro rfl; simp at hi)
  have hc := hd.cell (p / 8) (by omega)
  have hb8 := hd.byte (p / 8)
  have hc2 : 0 < p % 8 → w.cell? ⟨g, o + (p / 8 + 1), none⟩ = some (.int .u8 (L.getD (p / 8 + 1) 0 : Nat)) := fun hpos => hd.cell (p / 8 + 1) (by omega)
  have hb82 := hd.byte (p / 8 + 1)
  obtain ⟨z, hz⟩ : ∃ z, L.getD (p / 8) 0 = z := ⟨_, rfl⟩
  obtain ⟨y, hy⟩ : ∃ y, L.getD (p / 8 + 1) 0 = y := ⟨_, rfl⟩
  rw [hz] at hc hb8
  rw [hy] at hc2 hb82
  have hnum := octet_num L p hi z y hz hb8 (fun _ => hy) hb82
  have HM := Lib.hid (h.move' (z := (p : Int) + 8) (p + 8) (by omega) hi)
  have HN := Lib.hid hnum
  clear h hd hz hy hnum
  by_cases hu : 0 < p % 8
  · have hc3 := hc2 hu
    clear hc2
    go_enter Tryz.func54, Tryz.ntmps54
    go_wp2
    go_region
    all_goals go_wp2
    all_goals go_ret
    all_goals refine ⟨rint ?_, HM.out.1.still (Still.refl _).drew, HM.out.2.drew⟩
    rw [HN.out, if_neg (by omega)]
    have e1 : (z : Int) * 2 ^ (p % 8) % 256 = ((z * 2 ^ (p % 8) % 256 : Nat) : Int) := by rw [Int.natCast_emod, Int.natCast_mul, Int.natCast_pow]; rfl
    have e2 : (y : Int) / 2 ^ (8 - p % 8) = ((y / 2 ^ (8 - p % 8) : Nat) : Int) := by rw [Int.natCast_ediv, Int.natCast_pow]; rfl
    rw [e1, e2, u8_or_nat _ _ (Nat.mod_lt _ (by omega)) (Nat.lt_of_le_of_lt (Nat.div_le_self _ _) hb82)]
  · clear hc2
    go_enter Tryz.func54, Tryz.ntmps54
    go_wp2
    go_region
    all_goals go_wp2
    all_goals go_ret
    all_goals refine ⟨rint ?_, HM.out.1.still (Still.refl _).drew, HM.out.2.drew⟩
    rw [HN.out, if_pos (by omega), Nat.or_zero]
    rw [Int.natCast_emod, Int.natCast_mul, Int.natCast_pow]
    rfl

theorem or_bit (v : Nat) (t : Bool) (hv : v < 9223372036854775808) : bits BinOp.or IntKind.u64 (IntKind.u64.wrap ((v : Int) * 2)) (IntKind.u64.wrap (t.toNat : Nat)) = ((2 * v + t.toNat : Nat) : Int) := by
  have e : (v : Int) * 2 % 18446744073709551616 = ((2 * v : Nat) : Int) := by omega
  have ht : t.toNat < 2 := by cases t <;> simp
  have e2 : ((t.toNat : Nat) : Int) % 18446744073709551616 = (t.toNat : Nat) := by omega
  rw [IntKind.wrap_u64, IntKind.wrap_u64, e, e2, bits_or_u64_nat (2 * v) t.toNat (by omega) (by omega)]
  congr 1
  rw [nat_join 1 (2 * v) t.toNat (by omega) (by omega)]
theorem get_ok (w : World) (b : Nat) {s : Value} (L : List Nat) (p k : Nat) (h : RdAt w b s L p) (hL : L.length ≤ 10000000000) (hk : k ≤ 64) (hi : p + k ≤ 8 * L.length) :
    Calls Tryz.prog 8 #[.pointer (some ⟨b, 0, none⟩), .int .i64 k] w fun e w' => e = .returned (.tuple #[.int .u64 (bitsAt (bitsOf L) p k : Nat), .int .i64 0]) ∧ RdAt w' b s L (p + k) ∧ Only b w w' := by
  have HR := Lib.hid h
  clear h
  have hw1 : widthB k = true := by simp [widthB]; omega
  have hgt : (k : Int) ≤ ((8 * L.length - p : Nat) : Int) := by omega
  have hdec : decide (8 * L.length - p < k) = false := by simp; omega
  go_enter Tryz.func8, Tryz.ntmps8
  go_wp2_with (first | (go_at_call 26; refine (isWidth_any _ _).mono ?_; rintro e w' ⟨rfl, rfl⟩) | (go_at_call 27; refine (left_ok w b L p HR.out hL).mono ?_; rintro e w1 ⟨rfl, hst⟩; have HS := Lib.hid hst; clear hst))
  have HR1 := Lib.hid (HR.out.still HS.out)
  go_loop [6, 20] (fun v i => ∃ j : Nat, j ≤ k ∧ i = .int .i64 j ∧ v = .int .u64 (bitsAt (bitsOf L) p j : Nat)) (fun _ i => k - (intOf i).toNat)
  case atStart => exact ⟨0, Nat.zero_le _, rfl, rfl⟩
  case round =>
    obtain ⟨j, hj, rfl, rfl⟩ := hrel
    by_cases hlt : j < k
    · have hv := bitsAt_lt (bitsOf L) p j (by rw [bitsOf_length]; omega)
      have hs := bitsAt_succ (bitsOf L) p j (by rw [bitsOf_length]; omega)
      have h63 : 2 ^ j ≤ 2 ^ 63 := Nat.pow_le_pow_right (by omega) (by omega)
      have hv' : bitsAt (bitsOf L) p j < 9223372036854775808 := Nat.lt_of_lt_of_le hv h63
      have ho := or_bit (bitsAt (bitsOf L) p j) ((bitsOf L).getD (p + j) false) hv'
      rw [← hs] at ho
      have hc := bit_ok w1 b L p j HR1.out hL (by omega)
      revert ho hc
      generalize bitsAt (bitsOf L) p j = v at *
      generalize ((bitsOf L).getD (p + j) false).toNat = t at *
      intro ho hc
      have HC := Lib.hid hc
      have HO := Lib.hid ho
      clear hv hs h63 hv' ho hc
      go_wp2_with (go_at_call 28; refine HC.out.mono ?_; rintro e w' ⟨rfl, rfl⟩)
      go_round
      case rel => exact ⟨j + 1, by omega, by go_num, congrArg (Value.int .u64) HO.out⟩
      case measure => simp [intOf]; omega
    · obtain rfl : j = k := by omega
      have hp := HR1.out.pos
      have hf := HR1.out.free 1
      have HM := Lib.hid (HR1.out.move' (z := (p : Int) + j) (p + j) (by omega) (by omega))
      go_wp2_with fail
      go_ret2
      exact ⟨rfl, HM.out.1, (HS.out.only b).trans HM.out.2⟩
theorem get_wide (w : World) (b : Nat) (z : Int) (hz : widthB z = false) :
    Calls Tryz.prog 8 #[.pointer (some ⟨b, 0, none⟩), .int .i64 z] w fun e w' => e = .returned (.tuple #[.int .u64 0, .int .i64 1]) ∧ w = w' := by
  go_enter Tryz.func8, Tryz.ntmps8
  go_wp2_with (go_at_call 26; refine (isWidth_any _ _).mono ?_; rintro e w' ⟨rfl, rfl⟩)
  go_ret2
  exact ⟨rfl, rfl⟩
theorem get_short (w : World) (b : Nat) {s : Value} (L : List Nat) (p k : Nat) (h : RdAt w b s L p) (hL : L.length ≤ 10000000000) (hk : k ≤ 64) (hi : 8 * L.length < p + k) :
    Calls Tryz.prog 8 #[.pointer (some ⟨b, 0, none⟩), .int .i64 k] w fun e w' => e = .returned (.tuple #[.int .u64 0, .int .i64 2]) ∧ Still w w' := by
  have hle := h.le
  have HR := Lib.hid h
  clear h
  have hw1 : widthB k = true := by simp [widthB]; omega
  have hgt : ((8 * L.length - p : Nat) : Int) < (k : Int) := by omega
  go_enter Tryz.func8, Tryz.ntmps8
  go_wp2_with (first | (go_at_call 26; refine (isWidth_any _ _).mono ?_; rintro e w' ⟨rfl, rfl⟩) | (go_at_call 27; refine (left_ok w b L p HR.out hL).mono ?_; rintro e w1 ⟨rfl, hst⟩; have HS := Lib.hid hst; clear hst))
  go_ret2
  exact ⟨rfl, HS.out⟩
theorem pos_ok (w : World) (b : Nat) {s : Value} (L : List Nat) (p : Nat) (h : RdAt w b s L p) :
    Calls Tryz.prog 13 #[.pointer (some ⟨b, 0, none⟩)] w fun e w' => e = .returned (.int .i64 p) ∧ w = w' := by
  have hp := h.pos
  clear h
  go_enter Tryz.func13, Tryz.ntmps13
  go_wp2_with fail
  go_ret
  exact ⟨rfl, rfl⟩
theorem ralign_ok (w : World) (b : Nat) {s : Value} (L : List Nat) (p : Nat) (h : RdAt w b s L p) (hL : L.length ≤ 10000000000) (hz : allz (bitsOf L) p ((8 - p % 8) % 8) = true) :
    Calls Tryz.prog 69 #[.pointer (some ⟨b, 0, none⟩)] w fun e w' => e = .returned (.int .i64 0) ∧ RdAt w' b s L (p + (8 - p % 8) % 8) ∧ Only b w w' := by
  have hp := h.pos
  have hf := h.free 1
  have hle := h.le
  have HR := Lib.hid h
  have HM := Lib.hid (h.move' (z := (p : Int) + ((8 - p % 8) % 8 : Nat)) (p + (8 - p % 8) % 8) (by omega) (by omega))
  have hc := zeros_ok w b L p ((8 - p % 8) % 8) h hL (by omega)
  rw [hz] at hc
  have HC := Lib.hid hc
  clear h hc hz
  go_enter Tryz.func69, Tryz.ntmps69
  have hq : (8 - p % 8) % 8 ≤ 7 := by omega
  have hg := gap_any p w (by omega)
  revert hg HC HM hq
  generalize (8 - p % 8) % 8 = q
  intro HM HC hq hg
  have HG := Lib.hid hg
  clear hg
  go_wp2_with (first | (go_at_call 82; refine HG.out.mono ?_; rintro e w' ⟨rfl, rfl⟩) | (go_at_call 83; refine HC.out.mono ?_; rintro e w' ⟨rfl, rfl⟩))
  go_ret
  exact ⟨rfl, HM.out.1, HM.out.2⟩
theorem ralign_bad (w : World) (b : Nat) {s : Value} (L : List Nat) (p : Nat) (h : RdAt w b s L p) (hL : L.length ≤ 10000000000) (hz : allz (bitsOf L) p ((8 - p % 8) % 8) = false) :
    Calls Tryz.prog 69 #[.pointer (some ⟨b, 0, none⟩)] w fun e w' => e = .returned (.int .i64 3) ∧ w = w' := by
  have hp := h.pos
  have hle := h.le
  have hc := zeros_ok w b L p ((8 - p % 8) % 8) h hL (by omega)
  rw [hz] at hc
  have HC := Lib.hid hc
  clear h hc hz
  go_enter Tryz.func69, Tryz.ntmps69
  have hg := gap_any p w (by omega)
  revert hg HC
  generalize (8 - p % 8) % 8 = q
  intro HC hg
  have HG := Lib.hid hg
  clear hg
  go_wp2_with (first | (go_at_call 82; refine HG.out.mono ?_; rintro e w' ⟨rfl, rfl⟩) | (go_at_call 83; refine HC.out.mono ?_; rintro e w' ⟨rfl, rfl⟩))
  go_ret
  exact ⟨rfl, rfl⟩

/-- what End tells -/
def endB (L : List Nat) (p : Nat) : Bool :=
  if L = [] then false else if (if p = 0 then 8 else 7) < 8 * L.length - p then false else allz (bitsOf L) p (8 * L.length - p)
end Go.Proofs.YtbpfggkpfaobhaaGreat

/-
  The Reader's Octets, End and New.
-/
namespace Go.Proofs.YtbpfggkpfaobhaaGreat
open Go.RowKit
set_option linter.unusedVariables false
set_option linter.unusedSimpArgs false
set_option maxRecDepth 100000

/-- n octets from bit p on -/
def octetsAt (B : List Bool) (p n : Nat) : List Nat := (List.range n).map fun i => bitsAt B (p + 8 * i) 8
theorem octetsAt_length (B : List Bool) (p n : Nat) : (octetsAt B p n).length = n := by simp [octetsAt]
/-- n cells, the first j of them read -/
def readRow (B : List Bool) (p n j : Nat) : List Value := (List.range n).map fun i => Value.int .u8 ((if i < j then bitsAt B (p + 8 * i) 8 else 0 : Nat) : Int)
theorem readRow_length (B : List Bool) (p n j : Nat) : (readRow B p n j).length = n := by simp [readRow]
theorem readRow_zero (B : List Bool) (p n : Nat) : readRow B p n 0 = List.replicate n (Value.int .u8 0) := by
  apply List.ext_getElem? ; intro i
  rcases Nat.lt_or_ge i n with h | h
  · simp [readRow, h]
  · simp [readRow, h]
theorem readRow_full (B : List Bool) (p n : Nat) : readRow B p n n = u8s (octetsAt B p n) := by
  unfold readRow u8s octetsAt
  rw [List.map_map]
  apply List.map_congr_left
  intro i hi
  simp at hi
  simp [hi]
theorem readRow_set (B : List Bool) (p n j : Nat) (h : j < n) : (readRow B p n j).set j (.int .u8 (bitsAt B (p + 8 * j) 8 : Nat)) = readRow B p n (j + 1) := by
  apply List.ext_getElem?
  intro i
  rw [List.getElem?_set, readRow_length]
  by_cases hij : j = i
  · subst hij
    rw [if_pos rfl, if_pos h]
    simp [readRow, h]
  · rw [if_neg hij]
    rcases Nat.lt_or_ge i n with h2 | h2
    · have : (i < j) ↔ (i < j + 1) := by omega
      simp [readRow, h2, this]
    · simp [readRow, h2]
theorem readRow_get (B : List Bool) (p n j i : Nat) (h : i < n) : ∃ x : Nat, (readRow B p n j)[i]? = some (.int .u8 x) := ⟨_, by simp [readRow, h]; rfl⟩

theorem roctets_ok (w : World) (b : Nat) {s : Value} (L : List Nat) (p n : Nat) (h : RdAt w b s L p) (hL : L.length ≤ 10000000000) (hi : p + 8 * n ≤ 8 * L.length) :
    Calls Tryz.prog 31 #[.pointer (some ⟨b, 0, none⟩), .int .i64 n] w fun e w' =>
      e = .returned (.tuple #[.slice (some ⟨w.heap.size, 0, none⟩) n n, .int .i64 0]) ∧ RdAt w' b s L (p + 8 * n) ∧ w'.heap[w.heap.size]? = some (.cells (u8s (octetsAt (bitsOf L) p n)).toArray 5 (0, 0)) ∧ Only b w w' := by
  have HR := Lib.hid h
  have hlt := h.lt
  clear h
  have hgt : (n : Int) ≤ ((8 * L.length - p : Nat) : Int) / 8 := by omega
  obtain ⟨lf, hlf⟩ : ∃ lf, 8 * L.length - p = lf := ⟨_, rfl⟩
  have hleft := left_ok w b L p HR.out hL
  rw [hlf] at hgt hleft
  have hdec : decide (lf / 8 < n) = false := by simp; omega
  have hdec2 : decide ((lf : Int) / 8 < (n : Int)) = false := by simp; omega
  have hlfb : lf ≤ 80000000000 := by omega
  have HLF := Lib.hid hlf
  have HLEFT := Lib.hid hleft
  have hn0 : ¬ ((n : Int) < 0) := by omega
  clear hlf hleft
  go_enter Tryz.func31, Tryz.ntmps31
  go_wp2_with (first | (go_at_call 27; refine HLEFT.out.mono ?_; rintro e w1 ⟨rfl, hst⟩; have HS := Lib.hid hst; clear hst) | (at_make; refine wpList_make_u8 rfl (.tmp 19) (.tmp 19) rfl n (by omega) rfl rfl ?_; intro w2 hG hbl hsz; have HG := Lib.hid hG; have HBL := Lib.hid hbl; clear hG hbl))
  have hsz1 : w1.heap.size = w.heap.size := by rw [HS.out.heap]
  have hG2 : w2.heap[w.heap.size]? = some (.cells (readRow (bitsOf L) p n 0).toArray 5 (0, 0)) := by
    have := HG.out
    rw [hsz1] at this
    rw [readRow_zero]; exact this
  have hbl2 : Below w.heap.size w w2 := (HS.out.below _).trans (HBL.out.mono (by omega))
  have HG2 := Lib.hid hG2
  have HB2 := Lib.hid hbl2
  have HR2 := Lib.hid (HR.out.below hbl2)
  rw [hsz1] at hsz ⊢
  clear hsz1 hG2 hbl2 HG HBL HS HLEFT hdec hdec2 hgt
  go_loopw [23] (fun i wr => ∃ j : Nat, j ≤ n ∧ i = .int .i64 j ∧ RdAt wr b s L (p + 8 * j) ∧ wr.heap[w.heap.size]? = some (.cells (readRow (bitsOf L) p n j).toArray 5 (0, 0)) ∧ Only b w wr) (fun i _ => n - (intOf i).toNat)
  case atStart => exact ⟨0, Nat.zero_le _, rfl, HR2.out, HG2.out, Only.of_below HB2.out⟩
  case round =>
    obtain ⟨j, hj, rfl, hr, hrow, ho⟩ := hrel
    have HRR := Lib.hid hr
    have HROW := Lib.hid hrow
    have HO := Lib.hid ho
    clear hr hrow ho
    by_cases hlt2 : j < n
    · have HC := Lib.hid (octet_ok wr b L (p + 8 * j) HRR.out hL (by omega))
      go_wp2_with fail
      refine HC.out.mono ?_
      rintro e w3 ⟨rfl, hr3, ho3⟩
      have hrow3 : w3.heap[w.heap.size]? = _ := (ho3.block w.heap.size (Array.getElem?_eq_some_iff.1 HROW.out).1 (by omega)).trans HROW.out
      obtain ⟨x, hx⟩ := readRow_get (bitsOf L) p n j j hlt2
      have hc3 : w3.cell? ⟨w.heap.size, j, none⟩ = some (.int .u8 x) := cell_of_list hrow3 hx
      have hf3 : w3.frozen? ⟨w.heap.size, j, none⟩ = false := frozen_of_row _ _ _ _ _ hrow3
      have hrow4 := heap_setCell_same w3 w.heap.size j _ _ (.int .u8 (bitsAt (bitsOf L) (p + 8 * j) 8 : Nat)) hrow3
      rw [List.setIfInBounds_toArray, readRow_set _ _ _ _ hlt2] at hrow4
      have hgl : w.heap.size ≠ b := by omega
      have hro3 : RdAt (w3.setCell ⟨w.heap.size, j, none⟩ (.int .u8 (bitsAt (bitsOf L) (p + 8 * j) 8 : Nat))) b s L (p + 8 * (j + 1)) := hr3.other _ _ _ (by omega) (fun g' o cap e hne => by have := HR.out.data_lt g' o cap e hne; omega)
      have ho4 : Only b w (w3.setCell ⟨w.heap.size, j, none⟩ (.int .u8 (bitsAt (bitsOf L) (p + 8 * j) 8 : Nat))) := by
        have h1 := HO.out.trans ho3
        refine ⟨h1.os, h1.tape, h1.output, by rw [World.size_setCell]; exact h1.size, fun k hk hkb => ?_⟩
        rw [heap_setCell_other _ _ _ _ (by show k ≠ w.heap.size; omega)]
        exact h1.block k hk hkb
      have HR3 := Lib.hid hro3
      have HROW3 := Lib.hid hrow4
      have HO3 := Lib.hid ho4
      clear hr3 ho3 hrow3 hx hrow4 hro3 ho4
      generalize bitsAt (bitsOf L) (p + 8 * j) 8 = y at *
      go_wp2_with fail
      go_roundw
      case rel => exact ⟨j + 1, by omega, by go_num, HR3.out, HROW3.out, HO3.out⟩
      case measure => simp [intOf]; omega
    · obtain rfl : j = n := by omega
      have hrow' := HROW.out
      rw [readRow_full] at hrow'
      have HROW' := Lib.hid hrow'
      clear hrow'
      go_wp2_with fail
      go_ret2
      exact ⟨rfl, HRR.out, HROW'.out, HO.out⟩
theorem roctets_neg (w : World) (b : Nat) (z : Int) (hz : z < 0) :
    Calls Tryz.prog 31 #[.pointer (some ⟨b, 0, none⟩), .int .i64 z] w fun e w' => e = .returned (.tuple #[.slice none 0 0, .int .i64 1]) ∧ w = w' := by
  go_enter Tryz.func31, Tryz.ntmps31
  go_wp2_with fail
  go_ret2
  exact ⟨rfl, rfl⟩
theorem roctets_short (w : World) (b : Nat) {s : Value} (L : List Nat) (p : Nat) (z : Int) (h : RdAt w b s L p) (hL : L.length ≤ 10000000000) (hz : 0 ≤ z) (hi : ((8 * L.length - p : Nat) : Int) / 8 < z) :
    Calls Tryz.prog 31 #[.pointer (some ⟨b, 0, none⟩), .int .i64 z] w fun e w' => e = .returned (.tuple #[.slice none 0 0, .int .i64 2]) ∧ Still w w' := by
  have hleft := left_ok w b L p h hL
  revert hleft hi
  have hle : 8 * L.length - p ≤ 80000000000 := by omega
  generalize 8 * L.length - p = lf at *
  intro hi hleft
  have HL := Lib.hid hleft
  clear hleft h
  go_enter Tryz.func31, Tryz.ntmps31
  go_wp2_with (go_at_call 27; refine HL.out.mono ?_; rintro e w1 ⟨rfl, hst⟩; have HS := Lib.hid hst; clear hst)
  go_ret2
  exact ⟨rfl, HS.out⟩

theorem build_reader (w : World) (a : Option Addr) (n c : Nat) : (Instr.build 58 #[(0, .slice a n c)]).run Tryz.prog w = .ok (.agg #[.slice a n c, .int .i64 0]) w := by kernel_rfl
/-- slices.Clone: an array of its own -/
theorem clone_at (w : World) (g o cap : Nat) (l : List Nat) (hl : l ≠ []) (hd : DataAt w g o l) (hlen : l.length ≤ 1000000000) :
    Calls Tryz.prog 24 #[.slice (some ⟨g, o, none⟩) l.length cap] w fun e w' => ∃ s, e = .returned s ∧ OwnAt w' s l ∧ Below w.heap.size w w' := by
  have hlp : 0 < l.length := by cases l <;> simp_all
  obtain ⟨i0, hi, hz0, hz1, hz2⟩ := info_parts info_u8
  have hnews : ∀ j u, (u8s l)[j]? = some u → ((w.alloc (.cells #[] 5)).cell? ((⟨g, o, none⟩ : Addr).add j) = some u) := by
    intro j u hj
    have hjl : j < l.length := by have := (List.getElem?_eq_some_iff.1 hj).1; simpa [u8s] using this
    rw [Addr.add_mid, (hd.below ((Below.refl _ _).alloc (Nat.le_refl _) _)).cell j hjl, ← hj]
    unfold u8s
    rw [List.getElem?_map, List.getElem?_eq_getElem hjl]
    simp [List.getD_eq_getElem?_getD, hjl]
  have HN := Lib.hid hnews
  have HD := Lib.hid hd
  have heq := fun w : World => Lib.run_eql_slice_nil (P := Tryz.prog) w 22 5 (some ⟨g, o, none⟩) l.length cap 0 0 Tryz.underlying22
  clear hnews hd hl
  go_enter Tryz.func24, Tryz.ntmps24
  go_wp2_with (at_builtin; refine wpList_append_grows _ rfl (.tmp 5) (.tmp 6) 22 rfl 5 i0 (.int .u8 0) 1 1 Tryz.underlying22 hi hz0 hz1 hz2 rfl (by decide) (some ⟨w.heap.size, 0, none⟩) 0 0 [] rfl (fun h => by cases h) rfl (fun _ _ j u h => by cases h) ⟨g, o, none⟩ l.length cap (u8s l) rfl (by simp [u8s]) HN.out (u8s_one l) (by omega) (by unfold maxLen; omega) (by omega) ?_; intro v' w2 hown hgr; have HO := Lib.hid hown; have HG := Lib.hid hgr; clear hown hgr)
  go_ret
  refine ⟨_, rfl, ?_, ?_⟩
  · obtain ⟨h1, h2⟩ := HO.out
    rcases h2 with ⟨_, h3⟩ | ⟨g', cap', cur, hv, _, hh, hle, hm, hsz, htake⟩
    · omega
    · have e : (0 + l.length) = l.length := by omega
      rw [e] at hv htake hle
      rw [List.nil_append, Nat.mul_one] at htake
      have hl0 : l ≠ [] := by rintro rfl; simp at hlp
      refine .inl ⟨hl0, g', 0, cap', cur, (0, 0), hv, hh, ⟨fun i hi => ?_, HD.out.byte⟩⟩
      rw [cell_of_row w2 g' _ _ _ _ hh, Nat.zero_add]
      have h4 : (u8s l)[i]? = some (.int .u8 (l.getD i 0 : Nat)) := by
        unfold u8s
        rw [List.getElem?_map, List.getElem?_eq_getElem hi]
        simp [List.getD_eq_getElem?_getD, hi]
      rw [← htake, List.getElem?_take, if_pos hi] at h4
      rw [← h4, Array.getElem?_toList]
  · exact ((Below.refl _ _).alloc (Nat.le_refl _) _).grown HG.out (by simp) (fun k h => by cases h)
theorem clone_empty (w : World) (a : Option Addr) (cap : Nat) :
    Calls Tryz.prog 24 #[.slice a 0 cap] w fun e w' => ∃ s, e = .returned s ∧ OwnAt w' s [] ∧ Below w.heap.size w w' := by
  have heq := fun (a : Option Addr) (w : World) => Lib.run_eql_slice_nil (P := Tryz.prog) w 22 5 a 0 cap 0 0 Tryz.underlying22
  cases a with
  | none =>
    go_enter Tryz.func24, Tryz.ntmps24
    go_wp2_with fail
    go_ret
    exact ⟨_, rfl, .inr ⟨rfl, _, _, rfl⟩, Below.refl _ _⟩
  | some x =>
    go_enter Tryz.func24, Tryz.ntmps24
    go_wp2_with fail
    go_ret
    exact ⟨_, rfl, .inr ⟨rfl, _, _, rfl⟩, (Below.refl _ _).alloc (Nat.le_refl _) _⟩
theorem new_ok (w : World) (s0 : Value) (l : List Nat) (h : SlAt w s0 l) (hlen : l.length ≤ 1000000000) :
    Calls Tryz.prog 6 #[s0] w fun e w' => ∃ s b, e = .returned (.pointer (some ⟨b, 0, none⟩)) ∧ w.heap.size ≤ b ∧ RdAt w' b s l 0 ∧ Below w.heap.size w w' := by
  have hcl : Calls Tryz.prog 24 #[s0] w fun e w' => ∃ s, e = .returned s ∧ OwnAt w' s l ∧ Below w.heap.size w w' := by
    by_cases hl : l = []
    · subst hl
      have e : ∃ a cap, s0 = .slice a 0 cap := by
        rcases h with ⟨g, o, cap, rfl, hd⟩ | ⟨_, a, cap, rfl⟩
        · exact ⟨_, _, rfl⟩
        · exact ⟨_, _, rfl⟩
      obtain ⟨a, cap, rfl⟩ := e
      exact clone_empty w a cap
    · rcases h with ⟨g, o, cap, rfl, hd⟩ | ⟨h0, _⟩
      · exact clone_at w g o cap l hl hd hlen
      · exact absurd h0 hl
  have HC := Lib.hid hcl
  clear hcl h
  go_enter Tryz.func6, Tryz.ntmps6
  go_wp2_with fail
  refine HC.out.mono ?_
  rintro e w1 ⟨s, rfl, how, hbl⟩
  have hsl : ∃ a n c, s = .slice a n c := by
    rcases how with ⟨_, g, o, cap, cs, fr, e, _, _⟩ | ⟨_, a, cap, e⟩
    · exact ⟨_, _, _, e⟩
    · exact ⟨_, _, _, e⟩
  obtain ⟨a, n, c, rfl⟩ := hsl
  have HO := Lib.hid how
  have HB := Lib.hid hbl
  have hs := hbl.size
  clear how hbl
  go_wp2_with fail
  go_ret
  refine ⟨.slice a n c, w1.heap.size, rfl, hs, ⟨heap_alloc_new _ _, HO.out.below ((Below.refl _ _).alloc (Nat.le_refl _) _), Nat.zero_le _⟩, HB.out.alloc hs _⟩
end Go.Proofs.YtbpfggkpfaobhaaGreat

/-
  Plain facts on what is written, and what reading it gives.
-/
namespace Go.Proofs.YtbpfggkpfaobhaaGreat
open Go.RowKit
set_option linter.unusedVariables false
set_option linter.unusedSimpArgs false
set_option maxRecDepth 100000

theorem wb_bits (B : List Bool) : ∃ m, bitsOf (wb B) = B ++ List.replicate m false ∧ (B = [] → m = 8) ∧ (B ≠ [] → m < 8) := by
  unfold wb
  by_cases h : B = []
  · subst h
    refine ⟨8, ?_, fun _ => rfl, fun h => absurd rfl h⟩
    rw [if_pos rfl]
    decide
  · rw [if_neg h, bitsOf_octs]
    exact ⟨(8 - B.length % 8) % 8, rfl, fun h' => absurd h' h, fun _ => by omega⟩
theorem wb_length (B : List Bool) (m : Nat) (h : bitsOf (wb B) = B ++ List.replicate m false) : 8 * (wb B).length = B.length + m := by
  rw [← bitsOf_length, h]; simp

theorem bitsAt_mid (A S R : List Bool) (k : Nat) (hk : k = S.length) : bitsAt (A ++ S ++ R) A.length k = num S := by
  unfold bitsAt
  rw [List.append_assoc, List.drop_left, hk, List.take_left]
theorem getD_mid (A S R : List Bool) (i : Nat) (hi : i < S.length) : (A ++ S ++ R).getD (A.length + i) false = S.getD i false := by
  rw [List.append_assoc, List.getD_eq_getElem?_getD, List.getElem?_append_right (by omega), List.getD_eq_getElem?_getD, show A.length + i - A.length = i by omega, List.getElem?_append_left hi]
theorem allz_mid (A R : List Bool) (k : Nat) : allz (A ++ List.replicate k false ++ R) A.length k = true := by
  refine allz_true (fun i hi => ?_)
  rw [getD_mid _ _ _ _ (by simpa using hi), List.getD_eq_getElem?_getD, List.getElem?_replicate, if_pos hi]
  rfl
theorem bitsOf_mid (b : List Nat) (i : Nat) (h : i < b.length) : bitsOf b = bitsOf (b.take i) ++ nb b[i] 8 ++ bitsOf (b.drop (i + 1)) := by
  have e : b = b.take i ++ [b[i]] ++ b.drop (i + 1) := by
    rw [← List.take_succ_eq_append_getElem h, List.take_append_drop]
  conv => lhs; rw [e]
  rw [bitsOf_append, bitsOf_append]
  simp [bitsOf]
theorem octetsAt_mid (A R : List Bool) (b : List Nat) (hb : ∀ i, b.getD i 0 < 256) : octetsAt (A ++ bitsOf b ++ R) A.length b.length = b := by
  apply List.ext_getElem
  · simp [octetsAt]
  · intro i h1 h2
    have e : bitsAt (A ++ bitsOf b ++ R) (A.length + 8 * i) 8 = b[i] := by
      have h3 := hb i
      rw [List.getD_eq_getElem?_getD, List.getElem?_eq_getElem h2] at h3
      rw [bitsOf_mid b i h2]
      have e2 : A ++ (bitsOf (b.take i) ++ nb b[i] 8 ++ bitsOf (b.drop (i + 1))) ++ R = (A ++ bitsOf (b.take i)) ++ nb b[i] 8 ++ (bitsOf (b.drop (i + 1)) ++ R) := by simp
      have e3 : A.length + 8 * i = (A ++ bitsOf (b.take i)).length := by rw [List.length_append, bitsOf_length, List.length_take, Nat.min_eq_left (by omega)]
      rw [e2, e3, bitsAt_mid _ _ _ 8 (by rw [nb_length]), num_nb _ _ (by simpa using h3)]
    simp only [octetsAt, List.getElem_map, List.getElem_range]
    exact e
theorem endB_wb (B : List Bool) : endB (wb B) B.length = true := by
  obtain ⟨m, hm, h0, h1⟩ := wb_bits B
  have hl := wb_length B m hm
  unfold endB
  have hne : wb B ≠ [] := by
    intro h
    rw [h] at hl
    simp at hl
    have hB : B = [] := List.eq_nil_of_length_eq_zero (by omega)
    have := h0 hB
    omega
  rw [if_neg hne, hl, hm, show B.length + m - B.length = m by omega]
  have hlt : ¬ (if B.length = 0 then 8 else 7) < m := by
    by_cases hB : B = []
    · rw [h0 hB, hB]; simp
    · have := h1 hB
      have : B.length ≠ 0 := fun h => hB (List.eq_nil_of_length_eq_zero h)
      rw [if_neg this]; omega
  rw [if_neg hlt]
  have := allz_mid B [] m
  rwa [List.append_nil] at this
end Go.Proofs.YtbpfggkpfaobhaaGreat
