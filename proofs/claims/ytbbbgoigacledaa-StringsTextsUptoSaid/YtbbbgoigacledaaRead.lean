/-
  What a Reader is in memory ('RdAt': its octets and its position), and its methods in these words.
-/
import Derived.Test.YtbbbgoigacledaaSl
import Derived.ArgAppend
namespace Go.Proofs.Ytbbbgoigacledaa
open Go.RowKit
set_option linter.unusedVariables false
set_option linter.unusedSimpArgs false
set_option maxRecDepth 100000

/-- memory is as it was (draws apart) -/
structure Still (w w' : World) : Prop where
  heap : w'.heap = w.heap
  os : w'.os = w.os
  tape : w'.tape = w.tape
  output : w'.output = w.output
theorem Still.refl (w : World) : Still w w := ⟨rfl, rfl, rfl, rfl⟩
theorem Still.drew {w w' : World} (h : Still w w') : Still w w'.drew := ⟨h.heap, h.os, h.tape, h.output⟩
theorem Still.trans {x y z : World} (h : Still x y) (k : Still y z) : Still x z := ⟨k.heap.trans h.heap, k.os.trans h.os, k.tape.trans h.tape, k.output.trans h.output⟩
theorem Still.below {w w' : World} (h : Still w w') (B : Nat) : Below B w w' := ⟨h.os, h.tape, h.output, by rw [h.heap]; exact Nat.le_refl _, fun k _ => by rw [h.heap]⟩
theorem Still.only {w w' : World} (h : Still w w') (b : Nat) : Only b w w' := Only.of_below (h.below _)

/-- octets in an array of octets -/
def OwnAt (w : World) (s : Value) (l : List Nat) : Prop :=
  (l ≠ [] ∧ ∃ g o cap cs fr, s = .slice (some ⟨g, o, none⟩) l.length cap ∧ w.heap[g]? = some (.cells cs 5 fr) ∧ DataAt w g o l) ∨ (l = [] ∧ ∃ a cap, s = .slice a 0 cap)
theorem OwnAt.sl {w : World} {s : Value} {l : List Nat} (h : OwnAt w s l) : SlAt w s l := by
  rcases h with ⟨_, g, o, cap, cs, fr, e, _, hd⟩ | h
  · exact .inl ⟨g, o, cap, e, hd⟩
  · exact .inr h
/-- only a block that is no array of octets has changed -/
theorem OwnAt.keep {w w' : World} {s : Value} {l : List Nat} {b : Nat} (h : OwnAt w s l) (ho : Only b w w') (hb : ∀ cs fr, w.heap[b]? ≠ some (.cells cs 5 fr)) : OwnAt w' s l := by
  rcases h with ⟨h0, g, o, cap, cs, fr, e, hg, hd⟩ | h
  · have hne : g ≠ b := by rintro rfl; exact hb _ _ hg
    exact .inl ⟨h0, g, o, cap, cs, fr, e, (ho.block g (Array.getElem?_eq_some_iff.1 hg).1 hne).trans hg, hd.keep ho hne⟩
  · exact .inr h
theorem OwnAt.below {w w' : World} {s : Value} {l : List Nat} (h : OwnAt w s l) (ho : Below w.heap.size w w') : OwnAt w' s l := by
  rcases h with ⟨h0, g, o, cap, cs, fr, e, hg, hd⟩ | h
  · exact .inl ⟨h0, g, o, cap, cs, fr, e, (ho.block g (Array.getElem?_eq_some_iff.1 hg).1).trans hg, hd.below ho⟩
  · exact .inr h

/-- block b is a Reader of the octets L that has read p bits -/
def RdAt (w : World) (b : Nat) (s : Value) (L : List Nat) (p : Nat) : Prop :=
  w.heap[b]? = some (.cells #[s, .int .i64 p] 83 (0, 0)) ∧ OwnAt w s L ∧ p ≤ 8 * L.length
theorem RdAt.lt {w : World} {b : Nat} {s : Value} {L : List Nat} {p : Nat} (h : RdAt w b s L p) : b < w.heap.size := by
  obtain ⟨hs, _⟩ := h
  exact (Array.getElem?_eq_some_iff.1 hs).1
theorem RdAt.le {w : World} {b : Nat} {s : Value} {L : List Nat} {p : Nat} (h : RdAt w b s L p) : p ≤ 8 * L.length := by
  obtain ⟨_, _, h⟩ := h
  exact h
theorem RdAt.no_u8 {w : World} {b : Nat} {s : Value} {L : List Nat} {p : Nat} (h : RdAt w b s L p) : ∀ cs fr, w.heap[b]? ≠ some (.cells cs 5 fr) := by
  intro cs fr e
  obtain ⟨hs, _⟩ := h
  rw [hs] at e
  injection e with e
  injection e with h1 h2 h3
  exact absurd h2 (by decide)
theorem WrAt.no_u8 {w : World} {b : Nat} {B : List Bool} (h : WrAt w b B) : ∀ cs fr, w.heap[b]? ≠ some (.cells cs 5 fr) := by
  intro cs fr e
  obtain ⟨s, hs, _⟩ := h
  rw [hs] at e
  unfold wrObj at e
  injection e with e
  injection e with h1 h2 h3
  exact absurd h2 (by decide)
theorem RdAt.below {w w' : World} {b : Nat} {s : Value} {L : List Nat} {p : Nat} (h : RdAt w b s L p) (ho : Below w.heap.size w w') : RdAt w' b s L p := by
  have hlt := h.lt
  obtain ⟨hs, hd, hp⟩ := h
  exact ⟨(ho.block b hlt).trans hs, hd.below ho, hp⟩
theorem RdAt.still {w w' : World} {b : Nat} {s : Value} {L : List Nat} {p : Nat} (h : RdAt w b s L p) (ho : Still w w') : RdAt w' b s L p := h.below (ho.below _)
theorem RdAt.keep {w w' : World} {b b' : Nat} {s : Value} {L : List Nat} {p : Nat} (h : RdAt w b s L p) (ho : Only b' w w') (hb : b ≠ b') (hn : ∀ cs fr, w.heap[b']? ≠ some (.cells cs 5 fr)) : RdAt w' b s L p := by
  have hlt := h.lt
  obtain ⟨hs, hd, hp⟩ := h
  exact ⟨(ho.block b hlt hb).trans hs, hd.keep ho hn, hp⟩
theorem RdAt.pos {w : World} {b : Nat} {s : Value} {L : List Nat} {p : Nat} (h : RdAt w b s L p) : w.cell? ⟨b, 1, none⟩ = some (.int .i64 p) := by
  obtain ⟨hs, _⟩ := h
  rw [cell_of_row w b 1 _ _ _ hs]; rfl
theorem RdAt.free {w : World} {b : Nat} {s : Value} {L : List Nat} {p : Nat} (h : RdAt w b s L p) (j : Nat) : w.frozen? ⟨b, j, none⟩ = false := by
  obtain ⟨hs, _⟩ := h
  exact frozen_of_row w b j _ _ hs
theorem RdAt.sl {w : World} {b : Nat} {s : Value} {L : List Nat} {p : Nat} (h : RdAt w b s L p) : ∃ a cap, w.cell? ⟨b, 0, none⟩ = some (.slice a L.length cap) ∧ OwnAt w (.slice a L.length cap) L := by
  obtain ⟨hs, hd, _⟩ := h
  have hc : w.cell? ⟨b, 0, none⟩ = some s := by rw [cell_of_row w b 0 _ _ _ hs]; rfl
  have hd' := hd
  rcases hd with ⟨_, g, o, cap, cs, fr, e, _, _⟩ | ⟨e0, a, cap, e⟩
  · subst e; exact ⟨_, _, hc, hd'⟩
  · subst e; subst e0; exact ⟨_, _, hc, hd'⟩
theorem RdAt.octet {w : World} {b : Nat} {s : Value} {L : List Nat} {p : Nat} (h : RdAt w b s L p) (hL : L ≠ []) : ∃ g o cap, w.cell? ⟨b, 0, none⟩ = some (.slice (some ⟨g, o, none⟩) L.length cap) ∧ DataAt w g o L := by
  obtain ⟨hs, hd, _⟩ := h
  have hc : w.cell? ⟨b, 0, none⟩ = some s := by rw [cell_of_row w b 0 _ _ _ hs]; rfl
  rcases hd with ⟨_, g, o, cap, cs, fr, e, _, hd⟩ | ⟨e0, _⟩
  · subst e; exact ⟨_, _, _, hc, hd⟩
  · exact absurd e0 hL
/-- the position moves on -/
theorem RdAt.move {w : World} {b : Nat} {s : Value} {L : List Nat} {p : Nat} (h : RdAt w b s L p) (q : Nat) (hq : q ≤ 8 * L.length) : RdAt (w.setCell ⟨b, 1, none⟩ (.int .i64 q)) b s L q := by
  have hn := h.no_u8
  obtain ⟨hs, hd, _⟩ := h
  exact ⟨heap_setCell_same w b 1 _ _ _ hs, hd.keep (Only.setCell 1 _) hn, hq⟩

theorem RdAt.move' {w : World} {b : Nat} {s : Value} {L : List Nat} {p : Nat} (h : RdAt w b s L p) {z : Int} (q : Nat) (hz : z = q) (hq : q ≤ 8 * L.length) :
    RdAt (w.setCell ⟨b, 1, none⟩ (.int .i64 z)) b s L q ∧ Only b w (w.setCell ⟨b, 1, none⟩ (.int .i64 z)) := by
  subst hz
  exact ⟨h.move q hq, Only.setCell 1 _⟩
/-- a store into an array of octets that is not its own -/
theorem RdAt.other {w : World} {b : Nat} {s : Value} {L : List Nat} {p : Nat} (h : RdAt w b s L p) (g j : Nat) (v : Value) (hb : b ≠ g) (hg : ∀ g' o cap, s = .slice (some ⟨g', o, none⟩) L.length cap → L ≠ [] → g' ≠ g) : RdAt (w.setCell ⟨g, j, none⟩ v) b s L p := by
  have hlt := h.lt
  obtain ⟨hs, hd, hp⟩ := h
  refine ⟨((Only.setCell j v).block b hlt hb).trans hs, ?_, hp⟩
  rcases hd with ⟨h0, g', o, cap, cs, fr, e, hgg, hdd⟩ | h
  · have hne := hg g' o cap e h0
    exact .inl ⟨h0, g', o, cap, cs, fr, e, ((Only.setCell j v).block g' (Array.getElem?_eq_some_iff.1 hgg).1 hne).trans hgg, hdd.keep (Only.setCell j v) hne⟩
  · exact .inr h
theorem RdAt.data_lt {w : World} {b : Nat} {s : Value} {L : List Nat} {p : Nat} (h : RdAt w b s L p) : ∀ g' o cap, s = .slice (some ⟨g', o, none⟩) L.length cap → L ≠ [] → g' < w.heap.size := by
  intro g' o cap e hne
  exact sl_lt h.2.1.sl e hne
theorem left_ok (w : World) (b : Nat) {s : Value} (L : List Nat) (p : Nat) (h : RdAt w b s L p) (hL : L.length ≤ 10000000000) :
    Calls Try.prog 50 #[.pointer (some ⟨b, 0, none⟩)] w fun e w' => e = .returned (.int .i64 ((8 * L.length - p : Nat) : Int)) ∧ Still w w' := by
  have hp := h.pos
  have hle := h.le
  obtain ⟨a, cap, hs, _⟩ := h.sl
  clear h
  go_enter Try.func50, Try.ntmps50
  go_wp2
  go_region
  all_goals go_wp2
  all_goals go_ret
  all_goals exact ⟨rint (by omega), (Still.refl _).drew⟩

theorem getD_bits (L : List Nat) (i : Nat) (hi : i < 8 * L.length) : (bitsOf L).getD i false = (L.getD (i / 8) 0).testBit (7 - i % 8) := by
  have e : i = 8 * (i / 8) + i % 8 := by omega
  rw [e, bitsOf_getD L _ _ (by omega) (by omega)]
  congr 1
  · congr 1; omega
  · omega
theorem and1_u8 (z s : Nat) (hz : z < 256) : bits BinOp.and IntKind.u8 ((z : Int) / 2 ^ s) 1 = ((z.testBit s).toNat : Nat) := by
  have h1 : z / 2 ^ s < 256 := Nat.lt_of_le_of_lt (Nat.div_le_self _ _) hz
  have e1 : ((z : Int) / 2 ^ s) = ((z / 2 ^ s : Nat) : Int) := by rw [Int.natCast_ediv, Int.natCast_pow]; rfl
  rw [e1, show (1 : Int) = ((1 : Nat) : Int) from rfl, u8_and_nat _ _ h1 (by omega)]
  have := bit_one z s
  rw [Nat.mod_eq_of_lt h1] at this
  rw [this]
theorem bit_ok (w : World) (b : Nat) {s : Value} (L : List Nat) (p i : Nat) (h : RdAt w b s L p) (hL : L.length ≤ 10000000000) (hi : p + i < 8 * L.length) :
    Calls Try.prog 51 #[.pointer (some ⟨b, 0, none⟩), .int .i64 i] w fun e w' => e = .returned (.int .u8 (((bitsOf L).getD (p + i) false).toNat : Nat)) ∧ w = w' := by
  have hp := h.pos
  obtain ⟨g, o, cap, hs, hd⟩ := h.octet (by rintro rfl; simp at hi)
  have hc := hd.cell ((p + i) / 8) (by omega)
  have hb8 := hd.byte ((p + i) / 8)
  obtain ⟨z, hz⟩ : ∃ z, L.getD ((p + i) / 8) 0 = z := ⟨_, rfl⟩
  rw [hz] at hc hb8
  have HZ := Lib.hid hz
  clear h hd hz
  go_enter Try.func51, Try.ntmps51
  go_wp2
  go_ret
  refine ⟨rint ?_, rfl⟩
  rw [and1_u8 z _ hb8, getD_bits L _ hi, HZ.out]

/-- are the n bits from p on all 0? -/
def allz (B : List Bool) (p n : Nat) : Bool := (List.range n).all fun i => !(B.getD (p + i) false)
theorem allz_true {B : List Bool} {p n : Nat} (h : ∀ i, i < n → B.getD (p + i) false = false) : allz B p n = true := by
  unfold allz
  rw [List.all_eq_true]
  intro i hi
  rw [h i (by simpa using hi)]
  rfl
theorem allz_false {B : List Bool} {p n i : Nat} (hi : i < n) (h : B.getD (p + i) false = true) : allz B p n = false := by
  unfold allz
  rw [List.all_eq_false]
  exact ⟨i, by simpa using hi, by rw [h]; simp⟩
theorem zeros_ok (w : World) (b : Nat) {s : Value} (L : List Nat) (p n : Nat) (h : RdAt w b s L p) (hL : L.length ≤ 10000000000) (hn : p + n ≤ 8 * L.length) :
    Calls Try.prog 95 #[.pointer (some ⟨b, 0, none⟩), .int .i64 n] w fun e w' => e = .returned (.bool (allz (bitsOf L) p n)) ∧ w = w' := by
  have HR := Lib.hid h
  clear h
  go_enter Try.func95, Try.ntmps95
  go_wp2_with fail
  go_loop [7] (fun i => ∃ j : Nat, j ≤ n ∧ i = .int .i64 j ∧ ∀ k, k < j → (bitsOf L).getD (p + k) false = false) (fun i => n - (intOf i).toNat)
  case atStart => exact ⟨0, Nat.zero_le _, rfl, fun k hk => absurd hk (by omega)⟩
  case round =>
    obtain ⟨j, hj, rfl, hz⟩ := hrel
    have HZ := Lib.hid hz
    clear hz
    by_cases hlt : j < n
    · have hc := bit_ok w b L p j HR.out hL (by omega)
      cases hb : (bitsOf L).getD (p + j) false with
      | false =>
        rw [hb] at hc
        have HB := Lib.hid hb
        have HC := Lib.hid hc
        clear hb hc
        go_wp2_with (go_at_call 51; refine HC.out.mono ?_; rintro e w' ⟨rfl, rfl⟩)
        go_round
        case rel =>
          refine ⟨j + 1, by omega, by go_num, fun k hk => ?_⟩
          rcases Nat.lt_or_ge k j with h | h
          · exact HZ.out k h
          · obtain rfl : k = j := by omega
            exact HB.out
        case measure => simp [intOf]; omega
      | true =>
        rw [hb] at hc
        have HB := Lib.hid hb
        have HC := Lib.hid hc
        clear hb hc
        go_wp2_with (go_at_call 51; refine HC.out.mono ?_; rintro e w' ⟨rfl, rfl⟩)
        go_ret
        exact ⟨rbool (allz_false hlt HB.out).symm, rfl⟩
    · obtain rfl : j = n := by omega
      go_wp2_with fail
      go_ret
      exact ⟨rbool (allz_true HZ.out).symm, rfl⟩

/-- the number that the k bits from p on are -/
def bitsAt (B : List Bool) (p k : Nat) : Nat := num ((B.drop p).take k)
theorem bitsAt_succ (B : List Bool) (p k : Nat) (h : p + k < B.length) : bitsAt B p (k + 1) = 2 * bitsAt B p k + (B.getD (p + k) false).toNat := by
  unfold bitsAt
  rw [List.take_succ_eq_append_getElem (by rw [List.length_drop]; omega), num_snoc, List.getElem_drop]
  simp [List.getD_eq_getElem?_getD, h]
theorem bitsAt_lt (B : List Bool) (p k : Nat) (h : p + k ≤ B.length) : bitsAt B p k < 2 ^ k := by
  have := num_lt ((B.drop p).take k)
  rwa [List.length_take, List.length_drop, Nat.min_eq_left (by omega)] at this
theorem bitsAt_testBit (B : List Bool) (p k i : Nat) (h : p + k ≤ B.length) : (bitsAt B p k).testBit i = (decide (i < k) && B.getD (p + (k - 1 - i)) false) := by
  unfold bitsAt
  rw [num_testBit, List.length_take, List.length_drop, Nat.min_eq_left (by omega)]
  by_cases hi : i < k
  · simp only [hi, decide_true, Bool.true_and]
    rw [List.getD_eq_getElem?_getD, List.getElem?_take, if_pos (by omega), List.getElem?_drop, List.getD_eq_getElem?_getD]
  · simp [hi]

theorem octet_num (L : List Nat) (p : Nat) (h : p + 8 ≤ 8 * L.length) (z y : Nat) (hz : L.getD (p / 8) 0 = z) (hz8 : z < 256) (hy : 0 < p % 8 → L.getD (p / 8 + 1) 0 = y) (hy8 : y < 256) :
    bitsAt (bitsOf L) p 8 = (z * 2 ^ (p % 8) % 256) ||| (if p % 8 = 0 then 0 else y / 2 ^ (8 - p % 8)) := by
  apply Nat.eq_of_testBit_eq
  intro i
  rw [bitsAt_testBit _ _ _ _ (by rw [bitsOf_length]; omega), Nat.testBit_or, show 256 = 2 ^ 8 from rfl, Nat.testBit_mod_two_pow, Nat.testBit_mul_two_pow]
  have hzb : ∀ j, 8 ≤ j → z.testBit j = false := fun j hj => Nat.testBit_lt_two_pow (Nat.lt_of_lt_of_le hz8 (by have := Nat.pow_le_pow_right (n := 2) (by omega) hj; simpa using this))
  have hyb : ∀ j, 8 ≤ j → y.testBit j = false := fun j hj => Nat.testBit_lt_two_pow (Nat.lt_of_lt_of_le hy8 (by have := Nat.pow_le_pow_right (n := 2) (by omega) hj; simpa using this))
  by_cases hi : i < 8
  · simp only [hi, decide_true, Bool.true_and]
    rw [getD_bits L _ (by omega)]
    rcases Nat.lt_or_ge i (p % 8) with h1 | h1
    · have e1 : (p + (8 - 1 - i)) / 8 = p / 8 + 1 := by omega
      have e2 : 7 - (p + (8 - 1 - i)) % 8 = i + (8 - p % 8) := by omega
      rw [e1, e2, hy (by omega), if_neg (by omega), Nat.testBit_div_two_pow]
      have : ¬ p % 8 ≤ i := by omega
      simp [this]
    · have e1 : (p + (8 - 1 - i)) / 8 = p / 8 := by omega
      have e2 : 7 - (p + (8 - 1 - i)) % 8 = i - p % 8 := by omega
      rw [e1, e2, hz]
      split
      · simp [h1]
      · rw [Nat.testBit_div_two_pow, hyb _ (by omega)]
        simp [h1]
  · simp only [hi, decide_false, Bool.false_and, Bool.false_or]
    split
    · simp
    · rw [Nat.testBit_div_two_pow, hyb _ (by omega)]
theorem octet_ok (w : World) (b : Nat) {s : Value} (L : List Nat) (p : Nat) (h : RdAt w b s L p) (hL : L.length ≤ 10000000000) (hi : p + 8 ≤ 8 * L.length) :
    Calls Try.prog 69 #[.pointer (some ⟨b, 0, none⟩)] w fun e w' => e = .returned (.int .u8 (bitsAt (bitsOf L) p 8 : Nat)) ∧ RdAt w' b s L (p + 8) ∧ Only b w w' := by
  have hp := h.pos
  have hf := h.free 1
  obtain ⟨g, o, cap, hs, hd⟩ := h.octet (by rintro rfl; simp at hi)
  have hc := hd.cell (p / 8) (by omega)
  have hb8 := hd.byte (p / 8)
  have hc2 : 0 < p % 8 → w.cell? ⟨g, o + (p / 8 + 1), none⟩ = some (.int .u8 (L.getD (p / 8 + 1) 0 : Nat)) := fun hpos => hd.cell (p / 8 + 1) (by omega)
  have hb82 := hd.byte (p / 8 + 1)
  obtain ⟨z, hz⟩ : ∃ z, L.getD (p / 8) 0 = z := ⟨_, rfl⟩
  obtain ⟨y, hy⟩ : ∃ y, L.getD (p / 8 + 1) 0 = y := ⟨_, rfl⟩
  rw [hz] at hc hb8
  rw [hy] at hc2 hb82
  have hnum := octet_num L p hi z y hz hb8 (fun _ => hy) hb82
  have HM := Lib.hid (h.move' (z := (p : Int) + 8) (p + 8) (by omega) hi)
  have HN := Lib.hid hnum
  clear h hd hz hy hnum
  by_cases hu : 0 < p % 8
  · have hc3 := hc2 hu
    clear hc2
    go_enter Try.func69, Try.ntmps69
    go_wp2
    go_region
    all_goals go_wp2
    all_goals go_ret
    all_goals refine ⟨rint ?_, HM.out.1.still (Still.refl _).drew, HM.out.2.drew⟩
    rw [HN.out, if_neg (by omega)]
    have e1 : (z : Int) * 2 ^ (p % 8) % 256 = ((z * 2 ^ (p % 8) % 256 : Nat) : Int) := by rw [Int.natCast_emod, Int.natCast_mul, Int.natCast_pow]; rfl
    have e2 : (y : Int) / 2 ^ (8 - p % 8) = ((y / 2 ^ (8 - p % 8) : Nat) : Int) := by rw [Int.natCast_ediv, Int.natCast_pow]; rfl
    rw [e1, e2, u8_or_nat _ _ (Nat.mod_lt _ (by omega)) (Nat.lt_of_le_of_lt (Nat.div_le_self _ _) hb82)]
  · clear hc2
    go_enter Try.func69, Try.ntmps69
    go_wp2
    go_region
    all_goals go_wp2
    all_goals go_ret
    all_goals refine ⟨rint ?_, HM.out.1.still (Still.refl _).drew, HM.out.2.drew⟩
    rw [HN.out, if_pos (by omega), Nat.or_zero]
    rw [Int.natCast_emod, Int.natCast_mul, Int.natCast_pow]
    rfl

theorem or_bit (v : Nat) (t : Bool) (hv : v < 9223372036854775808) : bits BinOp.or IntKind.u64 (IntKind.u64.wrap ((v : Int) * 2)) (IntKind.u64.wrap (t.toNat : Nat)) = ((2 * v + t.toNat : Nat) : Int) := by
  have e : (v : Int) * 2 % 18446744073709551616 = ((2 * v : Nat) : Int) := by omega
  have ht : t.toNat < 2 := by cases t <;> simp
  have e2 : ((t.toNat : Nat) : Int) % 18446744073709551616 = (t.toNat : Nat) := by omega
  rw [IntKind.wrap_u64, IntKind.wrap_u64, e, e2, bits_or_u64_nat (2 * v) t.toNat (by omega) (by omega)]
  congr 1
  rw [nat_join 1 (2 * v) t.toNat (by omega) (by omega)]
theorem get_ok (w : World) (b : Nat) {s : Value} (L : List Nat) (p k : Nat) (h : RdAt w b s L p) (hL : L.length ≤ 10000000000) (hk : k ≤ 64) (hi : p + k ≤ 8 * L.length) :
    Calls Try.prog 25 #[.pointer (some ⟨b, 0, none⟩), .int .i64 k] w fun e w' => e = .returned (.tuple #[.int .u64 (bitsAt (bitsOf L) p k : Nat), .int .i64 0]) ∧ RdAt w' b s L (p + k) ∧ Only b w w' := by
  have HR := Lib.hid h
  clear h
  have hw1 : widthB k = true := by simp [widthB]; omega
  have hgt : (k : Int) ≤ ((8 * L.length - p : Nat) : Int) := by omega
  have hdec : decide (8 * L.length - p < k) = false := by simp; omega
  go_enter Try.func25, Try.ntmps25
  go_wp2_with (first | (go_at_call 49; refine (isWidth_any _ _).mono ?_; rintro e w' ⟨rfl, rfl⟩) | (go_at_call 50; refine (left_ok w b L p HR.out hL).mono ?_; rintro e w1 ⟨rfl, hst⟩; have HS := Lib.hid hst; clear hst))
  have HR1 := Lib.hid (HR.out.still HS.out)
  go_loop [6, 20] (fun v i => ∃ j : Nat, j ≤ k ∧ i = .int .i64 j ∧ v = .int .u64 (bitsAt (bitsOf L) p j : Nat)) (fun _ i => k - (intOf i).toNat)
  case atStart => exact ⟨0, Nat.zero_le _, rfl, rfl⟩
  case round =>
    obtain ⟨j, hj, rfl, rfl⟩ := hrel
    by_cases hlt : j < k
    · have hv := bitsAt_lt (bitsOf L) p j (by rw [bitsOf_length]; omega)
      have hs := bitsAt_succ (bitsOf L) p j (by rw [bitsOf_length]; omega)
      have h63 : 2 ^ j ≤ 2 ^ 63 := Nat.pow_le_pow_right (by omega) (by omega)
      have hv' : bitsAt (bitsOf L) p j < 9223372036854775808 := Nat.lt_of_lt_of_le hv h63
      have ho := or_bit (bitsAt (bitsOf L) p j) ((bitsOf L).getD (p + j) false) hv'
      rw [← hs] at ho
      have hc := bit_ok w1 b L p j HR1.out hL (by omega)
      revert ho hc
      generalize bitsAt (bitsOf L) p j = v at *
      generalize ((bitsOf L).getD (p + j) false).toNat = t at *
      intro ho hc
      have HC := Lib.hid hc
      have HO := Lib.hid ho
      clear hv hs h63 hv' ho hc
      go_wp2_with (go_at_call 51; refine HC.out.mono ?_; rintro e w' ⟨rfl, rfl⟩)
      go_round
      case rel => exact ⟨j + 1, by omega, by go_num, congrArg (Value.int .u64) HO.out⟩
      case measure => simp [intOf]; omega
    · obtain rfl : j = k := by omega
      have hp := HR1.out.pos
      have hf := HR1.out.free 1
      have HM := Lib.hid (HR1.out.move' (z := (p : Int) + j) (p + j) (by omega) (by omega))
      go_wp2_with fail
      go_ret2
      exact ⟨rfl, HM.out.1, (HS.out.only b).trans HM.out.2⟩
theorem get_wide (w : World) (b : Nat) (z : Int) (hz : widthB z = false) :
    Calls Try.prog 25 #[.pointer (some ⟨b, 0, none⟩), .int .i64 z] w fun e w' => e = .returned (.tuple #[.int .u64 0, .int .i64 1]) ∧ w = w' := by
  go_enter Try.func25, Try.ntmps25
  go_wp2_with (go_at_call 49; refine (isWidth_any _ _).mono ?_; rintro e w' ⟨rfl, rfl⟩)
  go_ret2
  exact ⟨rfl, rfl⟩
theorem get_short (w : World) (b : Nat) {s : Value} (L : List Nat) (p k : Nat) (h : RdAt w b s L p) (hL : L.length ≤ 10000000000) (hk : k ≤ 64) (hi : 8 * L.length < p + k) :
    Calls Try.prog 25 #[.pointer (some ⟨b, 0, none⟩), .int .i64 k] w fun e w' => e = .returned (.tuple #[.int .u64 0, .int .i64 2]) ∧ Still w w' := by
  have hle := h.le
  have HR := Lib.hid h
  clear h
  have hw1 : widthB k = true := by simp [widthB]; omega
  have hgt : ((8 * L.length - p : Nat) : Int) < (k : Int) := by omega
  go_enter Try.func25, Try.ntmps25
  go_wp2_with (first | (go_at_call 49; refine (isWidth_any _ _).mono ?_; rintro e w' ⟨rfl, rfl⟩) | (go_at_call 50; refine (left_ok w b L p HR.out hL).mono ?_; rintro e w1 ⟨rfl, hst⟩; have HS := Lib.hid hst; clear hst))
  go_ret2
  exact ⟨rfl, HS.out⟩
theorem pos_ok (w : World) (b : Nat) {s : Value} (L : List Nat) (p : Nat) (h : RdAt w b s L p) :
    Calls Try.prog 29 #[.pointer (some ⟨b, 0, none⟩)] w fun e w' => e = .returned (.int .i64 p) ∧ w = w' := by
  have hp := h.pos
  clear h
  go_enter Try.func29, Try.ntmps29
  go_wp2_with fail
  go_ret
  exact ⟨rfl, rfl⟩
theorem ralign_ok (w : World) (b : Nat) {s : Value} (L : List Nat) (p : Nat) (h : RdAt w b s L p) (hL : L.length ≤ 10000000000) (hz : allz (bitsOf L) p ((8 - p % 8) % 8) = true) :
    Calls Try.prog 84 #[.pointer (some ⟨b, 0, none⟩)] w fun e w' => e = .returned (.int .i64 0) ∧ RdAt w' b s L (p + (8 - p % 8) % 8) ∧ Only b w w' := by
  have hp := h.pos
  have hf := h.free 1
  have hle := h.le
  have HR := Lib.hid h
  have HM := Lib.hid (h.move' (z := (p : Int) + ((8 - p % 8) % 8 : Nat)) (p + (8 - p % 8) % 8) (by omega) (by omega))
  have hc := zeros_ok w b L p ((8 - p % 8) % 8) h hL (by omega)
  rw [hz] at hc
  have HC := Lib.hid hc
  clear h hc hz
  go_enter Try.func84, Try.ntmps84
  have hq : (8 - p % 8) % 8 ≤ 7 := by omega
  have hg := gap_any p w (by omega)
  revert hg HC HM hq
  generalize (8 - p % 8) % 8 = q
  intro HM HC hq hg
  have HG := Lib.hid hg
  clear hg
  go_wp2_with (first | (go_at_call 86; refine HG.out.mono ?_; rintro e w' ⟨rfl, rfl⟩) | (go_at_call 95; refine HC.out.mono ?_; rintro e w' ⟨rfl, rfl⟩))
  go_ret
  exact ⟨rfl, HM.out.1, HM.out.2⟩
theorem ralign_bad (w : World) (b : Nat) {s : Value} (L : List Nat) (p : Nat) (h : RdAt w b s L p) (hL : L.length ≤ 10000000000) (hz : allz (bitsOf L) p ((8 - p % 8) % 8) = false) :
    Calls Try.prog 84 #[.pointer (some ⟨b, 0, none⟩)] w fun e w' => e = .returned (.int .i64 3) ∧ w = w' := by
  have hp := h.pos
  have hle := h.le
  have hc := zeros_ok w b L p ((8 - p % 8) % 8) h hL (by omega)
  rw [hz] at hc
  have HC := Lib.hid hc
  clear h hc hz
  go_enter Try.func84, Try.ntmps84
  have hg := gap_any p w (by omega)
  revert hg HC
  generalize (8 - p % 8) % 8 = q
  intro HC hg
  have HG := Lib.hid hg
  clear hg
  go_wp2_with (first | (go_at_call 86; refine HG.out.mono ?_; rintro e w' ⟨rfl, rfl⟩) | (go_at_call 95; refine HC.out.mono ?_; rintro e w' ⟨rfl, rfl⟩))
  go_ret
  exact ⟨rfl, rfl⟩

/-- what End tells -/
def endB (L : List Nat) (p : Nat) : Bool :=
  if L = [] then false else if (if p = 0 then 8 else 7) < 8 * L.length - p then false else allz (bitsOf L) p (8 * L.length - p)
end Go.Proofs.Ytbbbgoigacledaa
