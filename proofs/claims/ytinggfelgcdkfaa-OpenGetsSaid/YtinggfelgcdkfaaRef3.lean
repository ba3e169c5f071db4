/-
  The reference's Reader.
-/
import Derived.Test.YtinggfelgcdkfaaRef2
import Derived.Deep.RegionHeld3
import Derived.Deep.QuietTactic
import Derived.BigQuiet
namespace Go.Proofs.Ytinggfelgcdkfaa
open Go.RowKit
set_option linter.unusedVariables false
set_option linter.unusedSimpArgs false
set_option maxRecDepth 100000

/-- block b is a reference's Reader of the bits B that has read p of them -/
def QAt (w : World) (b : Nat) (B : List Bool) (p : Nat) : Prop :=
  w.heap[b]? = some (.cells #[.string (bchars B), .int .i64 p] 51 (0, 0)) ∧ p ≤ B.length
theorem QAt.lt {w : World} {b : Nat} {B : List Bool} {p : Nat} (h : QAt w b B p) : b < w.heap.size := (Array.getElem?_eq_some_iff.1 h.1).1
theorem QAt.below {w w' : World} {b : Nat} {B : List Bool} {p : Nat} (h : QAt w b B p) (ho : Below w.heap.size w w') : QAt w' b B p := ⟨(ho.block b h.lt).trans h.1, h.2⟩
theorem QAt.still {w w' : World} {b : Nat} {B : List Bool} {p : Nat} (h : QAt w b B p) (ho : Still w w') : QAt w' b B p := h.below (ho.below _)
theorem QAt.keep {w w' : World} {b b' : Nat} {B : List Bool} {p : Nat} (h : QAt w b B p) (ho : Only b' w w') (hb : b ≠ b') : QAt w' b B p := ⟨(ho.block b h.lt hb).trans h.1, h.2⟩
theorem QAt.str {w : World} {b : Nat} {B : List Bool} {p : Nat} (h : QAt w b B p) : w.cell? ⟨b, 0, none⟩ = some (.string (bchars B)) := cell_of_list (l := [.string (bchars B), .int .i64 p]) h.1 rfl
theorem QAt.pos {w : World} {b : Nat} {B : List Bool} {p : Nat} (h : QAt w b B p) : w.cell? ⟨b, 1, none⟩ = some (.int .i64 p) := cell_of_list (l := [.string (bchars B), .int .i64 p]) h.1 rfl
theorem QAt.free {w : World} {b : Nat} {B : List Bool} {p : Nat} (h : QAt w b B p) (j : Nat) : w.frozen? ⟨b, j, none⟩ = false := frozen_of_row w b j _ _ h.1
theorem QAt.move {w : World} {b : Nat} {B : List Bool} {p : Nat} (h : QAt w b B p) {z : Int} (q : Nat) (hz : z = q) (hq : q ≤ B.length) :
    QAt (w.setCell ⟨b, 1, none⟩ (.int .i64 z)) b B q ∧ Only b w (w.setCell ⟨b, 1, none⟩ (.int .i64 z)) := by
  subst hz
  refine ⟨⟨?_, hq⟩, ?_⟩
  · rw [heap_setCell_same w b 1 _ _ _ h.1]
    rfl
  · exact Only.setCell 1 _
theorem rnew_ok (w : World) (s : Value) (l : List Nat) (h : SlAt w s l) (hl : l.length ≤ 10000000) :
    Calls Try.prog 23 #[s] w fun e w' => ∃ b, e = .returned (.pointer (some ⟨b, 0, none⟩)) ∧ w.heap.size ≤ b ∧ QAt w' b (bitsOf l) 0 ∧ Below w.heap.size w w' := by
  have HC := Lib.hid (rocts_sl w [] s l h (by simp) hl)
  go_enter Try.func23, Try.ntmps23
  go_wp2_with (go_at_call 45; refine HC.out.mono ?_; rintro e w1 ⟨rfl, hb1⟩; have HB1 := Lib.hid hb1; clear hb1)
  go_ret
  exact ⟨_, rfl, HB1.out.size, ⟨heap_alloc_new _ _, Nat.zero_le _⟩, HB1.out.alloc HB1.out.size _⟩
def RelG (w : World) (B : List Bool) (p k : Nat) (v i : Value) (wr : World) : Prop := ∃ j : Nat, j ≤ k ∧ i = .int .i64 j ∧ v = .int .u64 (bitsAt B p j : Nat) ∧ Still w wr
theorem relG_next {w w' : World} {B : List Bool} {p k j : Nat} {x : Int} (hlt : j < k) (hx : x = (bitsAt B p (j + 1) : Nat)) (hs : Still w w') : RelG w B p k (.int .u64 x) (.int .i64 ((j : Int) + 1)) w' :=
  ⟨j + 1, hlt, by go_num, by rw [hx], hs⟩
theorem rget_ok (w : World) (b : Nat) (B : List Bool) (p k : Nat) (h : QAt w b B p) (hB : B.length ≤ 10000000000) (hk : k ≤ 64) (hi : p + k ≤ B.length) :
    Calls Try.prog 25 #[.pointer (some ⟨b, 0, none⟩), .int .i64 k] w fun e w' => e = .returned (.tuple #[.int .u64 (bitsAt B p k : Nat), .int .i64 0]) ∧ QAt w' b B (p + k) ∧ Only b w w' := by
  have hs := h.str
  have hp := h.pos
  have hf := h.free 1
  have hsz := bchars_size B
  have HQ := Lib.hid h
  clear h
  go_enter Try.func25, Try.ntmps25
  have hle : (k : Int) ≤ ((bchars B).size : Int) - p := by omega
  go_wp2_with fail
  go_region
  go_wp2_with fail
  have HST0 := Lib.hid (Still.refl w).drew
  clear hs hp hf hle
  go_loopw [6, 7] (fun v i wr => RelG w B p k v i wr) (fun _ i _ => k - (intOf i).toNat)
  case atStart => exact ⟨0, Nat.zero_le _, rfl, rfl, HST0.out⟩
  case round =>
    obtain ⟨j, hj, rfl, rfl, hst⟩ := hrel
    have hs := (HQ.out.still hst).str
    have hp := (HQ.out.still hst).pos
    have hf := (HQ.out.still hst).free 1
    have HST := Lib.hid hst
    clear hst
    by_cases hlt : j < k
    · have hv := bitsAt_lt B p j (by omega)
      have hs2 := bitsAt_succ B p j (by omega)
      have h63 : 2 ^ j ≤ 2 ^ 63 := Nat.pow_le_pow_right (by omega) (by omega)
      have hv' : bitsAt B p j < 9223372036854775808 := Nat.lt_of_lt_of_le hv h63
      obtain ⟨m, hm⟩ : ∃ m, p + j = m := ⟨_, rfl⟩
      have hwr : IntKind.i64.wrap ((p : Int) + j) = (m : Int) := by rw [IntKind.wrap_i64]; omega
      have hix : m < (bchars B).size := by omega
      have hix2 : m < B.length := by omega
      have hch := bchars_at B m (by omega) hix
      rw [hm] at hs2
      have HNX := Lib.hid (fun x w' => relG_next (w := w) (B := B) (p := p) (k := k) (j := j) (x := x) (w' := w') hlt)
      clear hm
      revert hs2 hch hv'
      generalize bitsAt B p j = v at *
      generalize bitsAt B p (j + 1) = v2 at *
      generalize B.getD m false = t
      intro y1 y2 y3
      have hs2 : v2 = 2 * v + t.toNat := by assumption
      have hch : ((bchars B)[m]'hix).toNat = bch t := by assumption
      have hv' : v < 9223372036854775808 := by assumption
      clear y1 y2 y3
      have HS2 := Lib.hid hs2
      clear hv h63 hs2
      cases t
      all_goals
        simp only [bch, Bool.false_eq_true, if_true, if_false] at hch
        go_wp2_with fail
        go_region
        all_goals go_wp2_with fail
        go_roundw
        case rel => exact HNX.out _ _ (by rw [HS2.out]; simp only [Bool.toNat_false, Bool.toNat_true]; omega) HST.out.drew
        case measure => simp [intOf]; omega
    · obtain rfl : j = k := by omega
      have HM := Lib.hid ((HQ.out.still HST.out).move (z := (p : Int) + j) (p + j) (by omega) (by omega))
      go_wp2_with fail
      go_ret2
      exact ⟨rfl, HM.out.1, (HST.out.only b).trans HM.out.2⟩
theorem rget_wide (w : World) (b : Nat) (z : Int) (hz : widthB z = false) :
    Calls Try.prog 25 #[.pointer (some ⟨b, 0, none⟩), .int .i64 z] w fun e w' => e = .returned (.tuple #[.int .u64 0, .int .i64 1]) ∧ w = w' := by
  have hz' : z < 0 ∨ 64 < z := by
    simp [widthB] at hz
    omega
  clear hz
  rcases hz' with h | h
  · go_enter Try.func25, Try.ntmps25
    go_wp2_with fail
    go_ret2
    exact ⟨rfl, rfl⟩
  · have h0 : 0 ≤ z := by omega
    go_enter Try.func25, Try.ntmps25
    go_wp2_with fail
    go_ret2
    exact ⟨rfl, rfl⟩
theorem rget_short (w : World) (b : Nat) (B : List Bool) (p k : Nat) (h : QAt w b B p) (hB : B.length ≤ 10000000000) (hk : k ≤ 64) (hi : B.length < p + k) :
    Calls Try.prog 25 #[.pointer (some ⟨b, 0, none⟩), .int .i64 k] w fun e w' => e = .returned (.tuple #[.int .u64 0, .int .i64 2]) ∧ Still w w' := by
  have hs := h.str
  have hp := h.pos
  have hle := h.2
  have hsz := bchars_size B
  clear h
  go_enter Try.func25, Try.ntmps25
  have hgt : ((bchars B).size : Int) - p < k := by omega
  go_wp2_with fail
  go_region
  go_wp2_with fail
  go_ret2
  exact ⟨rfl, (Still.refl w).drew⟩
/-- the zeros passed by Align -/
def RelZ (w : World) (B : List Bool) (p : Nat) (i : Value) (wr : World) : Prop := ∃ c : Nat, c ≤ (8 - p % 8) % 8 ∧ i = .int .i64 ((p + c : Nat) : Int) ∧ (∀ q, q < c → B.getD (p + q) false = false) ∧ Still w wr
theorem relZ_next {w w' : World} {B : List Bool} {p c m : Nat} (hc : c < (8 - p % 8) % 8) (hz : ∀ q, q < c → B.getD (p + q) false = false) (hm : p + c = m) (ht : B.getD m false = false) (hs : Still w w') : RelZ w B p (.int .i64 ((m : Int) + 1)) w' := by
  subst hm
  refine ⟨c + 1, hc, rfl, fun q hq => ?_, hs⟩
  by_cases h : q = c
  · subst h; exact ht
  · exact hz q (by omega)
theorem rralign_any (w : World) (b : Nat) (B : List Bool) (p : Nat) (h : QAt w b B p) (hB : B.length ≤ 10000000000) (h8 : B.length % 8 = 0) :
    Calls Try.prog 94 #[.pointer (some ⟨b, 0, none⟩)] w fun e w' =>
      (allz B p ((8 - p % 8) % 8) = true → e = .returned (.int .i64 0) ∧ QAt w' b B (p + (8 - p % 8) % 8) ∧ Only b w w') ∧ (allz B p ((8 - p % 8) % 8) = false → e = .returned (.int .i64 3) ∧ Still w w') := by
  have hs := h.str
  have hp := h.pos
  have hf := h.free 1
  have hle := h.2
  have hsz := bchars_size B
  have HQ := Lib.hid h
  clear h
  go_enter Try.func94, Try.ntmps94
  go_wp2_with fail
  clear hs hp hf
  go_loopw [3] (fun i wr => RelZ w B p i wr) (fun i _ => ((p + (8 - p % 8) % 8 : Nat) - intOf i : Int).toNat)
  case atStart => exact ⟨0, Nat.zero_le _, rfl, fun q h => absurd h (by omega), Still.refl w⟩
  case round =>
    obtain ⟨c, hc, rfl, hz, hst⟩ := hrel
    have hs := (HQ.out.still hst).str
    have hp := (HQ.out.still hst).pos
    have hf := (HQ.out.still hst).free 1
    have HST := Lib.hid hst
    have HZ := Lib.hid hz
    clear hst hz
    by_cases hlt : c < (8 - p % 8) % 8
    · obtain ⟨m, hm⟩ : ∃ m, p + c = m := ⟨_, rfl⟩
      have hix : m < (bchars B).size := by omega
      have hix2 : m < B.length := by omega
      have hm8 : ((m : Int) % 8 != 0) = true := by simp; omega
      have hch := bchars_at B m (by omega) hix
      have HM := Lib.hid hm
      rw [hm]
      obtain ⟨t, ht⟩ : ∃ t, B.getD m false = t := ⟨_, rfl⟩
      rw [ht] at hch
      have HT := Lib.hid ht
      clear ht hm
      cases t
      · simp only [bch, Bool.false_eq_true, if_false] at hch
        go_wp2_with fail
        go_roundw
        case rel => exact relZ_next hlt HZ.out HM.out HT.out HST.out
        case measure =>
          have hm := HM.out
          simp [intOf]
          omega
      · simp only [bch, if_true] at hch
        go_wp2_with fail
        go_ret
        have hf := allz_false hlt (by rw [HM.out]; exact HT.out)
        exact ⟨fun h => absurd (hf.symm.trans h) (by decide), fun _ => ⟨rfl, HST.out⟩⟩
    · obtain rfl : c = (8 - p % 8) % 8 := by omega
      obtain ⟨m, hm⟩ : ∃ m, p + (8 - p % 8) % 8 = m := ⟨_, rfl⟩
      have hm8 : ((m : Int) % 8 != 0) = false := by simp; omega
      have HM := Lib.hid ((HQ.out.still HST.out).move (z := (m : Int)) m rfl (by omega))
      have hz := allz_true HZ.out
      rw [hm]
      go_wp2_with fail
      go_ret
      exact ⟨fun _ => ⟨rfl, by rw [hm]; exact HM.out.1, (HST.out.only b).trans HM.out.2⟩, fun h => absurd (hz.symm.trans h) (by decide)⟩
theorem rroct_neg (w : World) (b : Nat) (z : Int) (hz : z < 0) :
    Calls Try.prog 59 #[.pointer (some ⟨b, 0, none⟩), .int .i64 z] w fun e w' => e = .returned (.tuple #[.slice none 0 0, .int .i64 1]) ∧ w = w' := by
  go_enter Try.func59, Try.ntmps59
  go_wp2_with fail
  go_ret2
  exact ⟨rfl, rfl⟩
theorem rroct_short (w : World) (b : Nat) (B : List Bool) (p : Nat) (z : Int) (h : QAt w b B p) (hB : B.length ≤ 10000000000) (hz : 0 ≤ z) (hi : ((B.length - p : Nat) : Int) / 8 < z) :
    Calls Try.prog 59 #[.pointer (some ⟨b, 0, none⟩), .int .i64 z] w fun e w' => e = .returned (.tuple #[.slice none 0 0, .int .i64 2]) ∧ Still w w' := by
  have hs := h.str
  have hp := h.pos
  have hle := h.2
  have hsz := bchars_size B
  have hi2 : ((B.length : Int) - p) / 8 < z := by omega
  clear h hi
  go_enter Try.func59, Try.ntmps59
  go_wp2_with fail
  go_region
  go_wp2_with fail
  go_ret2
  exact ⟨rfl, (Still.refl w).drew⟩
theorem rroct_zero (w : World) (b : Nat) (B : List Bool) (p : Nat) (h : QAt w b B p) (hB : B.length ≤ 10000000000) :
    Calls Try.prog 59 #[.pointer (some ⟨b, 0, none⟩), .int .i64 0] w fun e w' => e = .returned (.tuple #[.slice none 0 0, .int .i64 0]) ∧ Still w w' := by
  have hs := h.str
  have hp := h.pos
  have hle := h.2
  have hsz := bchars_size B
  have hi2 : (0 : Int) ≤ ((B.length : Int) - p) / 8 := by omega
  clear h
  go_enter Try.func59, Try.ntmps59
  go_wp2_with fail
  go_region
  go_wp2_with fail
  go_ret2
  exact ⟨rfl, (Still.refl w).drew⟩
theorem bchars_extract (B : List Bool) (p q : Nat) : (bchars B).extract p q = bchars ((B.drop p).take (q - p)) := by
  apply ByteArray.ext
  rw [ByteArray.data_extract]
  apply Array.ext'
  simp [bchars, List.map_take, List.map_drop]
theorem QAt.no_data {w : World} {b : Nat} {B : List Bool} {p o : Nat} {l : List Nat} (h : QAt w b B p) (hl : l ≠ []) (hd : DataAt w b o l) : False := by
  have hc := hd.cell 0 (by cases l <;> simp_all)
  rw [cell_of_row w b _ _ _ _ h.1] at hc
  match o, hc with
  | 0, hc => simp at hc
  | 1, hc => simp at hc
  | o + 2, hc => simp at hc
theorem QAt.sl {w : World} {b : Nat} {B : List Bool} {p : Nat} {l : List Nat} {s : Value} (h : QAt w b B p) (hs : SlAt w s l) (hl : l ≠ []) {w' : World} (ho : Only b w w') : SlAt w' s l := by
  rcases hs with ⟨g, o, cap, e, hd⟩ | ⟨h0, _⟩
  · refine .inl ⟨g, o, cap, e, hd.keep ho ?_⟩
    rintro rfl
    exact h.no_data hl hd
  · exact absurd h0 hl
theorem wb_octetsAt (B : List Bool) (p n : Nat) (hn : 0 < n) (h : p + 8 * n ≤ B.length) : wb ((B.drop p).take (8 * n)) = octetsAt B p n := by
  have hl : ((B.drop p).take (8 * n)).length = 8 * n := by rw [List.length_take, List.length_drop]; omega
  unfold wb
  rw [if_neg (by intro h0; rw [h0] at hl; simp at hl; omega)]
  unfold octs octetsAt
  rw [hl, show (8 * n + 7) / 8 = n by omega]
  apply List.map_congr_left
  intro j hj
  simp at hj
  unfold oct bitsAt
  congr 1
  apply List.ext_getElem
  · simp; omega
  · intro k h1 h2
    simp at h1
    simp [List.getD_eq_getElem?_getD, List.getElem?_take, show 8 * j + k < 8 * n by omega, show p + (8 * j + k) < B.length by omega, Nat.add_assoc]
theorem rroct_ok (w : World) (b : Nat) (B : List Bool) (p n : Nat) (h : QAt w b B p) (hB : B.length ≤ 100000000) (hn : 0 < n) (hi : p + 8 * n ≤ B.length) :
    Calls Try.prog 59 #[.pointer (some ⟨b, 0, none⟩), .int .i64 n] w fun e w' => ∃ v, e = .returned (.tuple #[v, .int .i64 0]) ∧ SlAt w' v (octetsAt B p n) ∧ QAt w' b B (p + 8 * n) ∧ Only b w w' := by
  have hs := h.str
  have hp := h.pos
  have hf := h.free 1
  have hle := h.2
  have hsz := bchars_size B
  have hi2 : (n : Int) ≤ ((B.length : Int) - p) / 8 := by omega
  have hn0 : ((n : Int) == 0) = false := by rw [beq_eq_false_iff_ne]; omega
  have HQ := Lib.hid h
  clear h
  go_enter Try.func59, Try.ntmps59
  go_wp2_with fail
  go_region
  go_wp2_with fail
  have d0 : w.drew.cell? ⟨b, 0, none⟩ = some (.string (bchars B)) := hs
  have d1 : w.drew.cell? ⟨b, 1, none⟩ = some (.int .i64 p) := hp
  have hst := Lib.hid (Still.refl w).drew
  clear hs hp hf
  revert d0 d1 hst
  generalize w.drew = w2
  intro d0 d1 hst
  obtain ⟨m, hm⟩ : ∃ m, 8 * n = m := ⟨_, rfl⟩
  obtain ⟨q, hq⟩ : ∃ q, p + m = q := ⟨_, rfl⟩
  have hw1 : IntKind.i64.wrap (8 * (n : Int)) = (m : Int) := by rw [IntKind.wrap_i64]; omega
  have hw2 : IntKind.i64.wrap ((p : Int) + m) = (q : Int) := by rw [IntKind.wrap_i64]; omega
  have hb1 : (p : Int) ≤ (q : Int) := by omega
  have hb2 : (q : Int) ≤ (B.length : Int) := by omega
  have hb3 : (0 : Int) ≤ (p : Int) := by omega
  have hb4 : p ≤ q := by omega
  have hb5 : q ≤ B.length := by omega
  have hex : (bchars B).extract p q = bchars ((B.drop p).take m) := by rw [bchars_extract]; congr 2; omega
  have HB := fun w2 => Lib.hid (rbytes_any w2 ((B.drop p).take m) (by rw [List.length_take]; omega))
  have HQD := Lib.hid ((HQ.out.still hst.out).still (Still.refl w2).drew)
  go_region_held3 (fun w' => w'.cell? ⟨b, 0, none⟩ = some (.string (bchars B)) ∧ w'.cell? ⟨b, 1, none⟩ = some (.int .i64 p)) (first | exact ⟨d0, d1⟩ | exact ⟨(HQD.out.below HB3.out).str, (HQD.out.below HB3.out).pos⟩) (first | (go_at_call 17; refine (HB _).out.mono ?_; rintro e w3 ⟨v3, rfl, hs3, hb3⟩; have HS3 := Lib.hid hs3; have HB3 := Lib.hid hb3; clear hs3 hb3))
  have HQ3 := Lib.hid (HQD.out.below HB3.out)
  have HO3 := Lib.hid (hst.out.drew.only b |>.trans (Only.of_below HB3.out))
  have e0 := HQ3.out.str
  have e1 := HQ3.out.pos
  have e2 := HQ3.out.free 1
  clear d0 d1 HQD HB3 hst HQ HB
  go_wp2_with fail
  have HM := Lib.hid (HQ3.out.move (z := (q : Int)) q rfl (by omega))
  have HSL := Lib.hid (HQ3.out.sl HS3.out (by rw [← hm, wb_octetsAt B p n hn hi]; intro h0; have := octetsAt_length B p n; rw [h0] at this; simp at this; omega) HM.out.2)
  go_ret2
  refine ⟨v3, rfl, ?_, ?_, ?_⟩
  · rw [← wb_octetsAt B p n hn hi, hm]
    exact HSL.out
  · rw [hm, hq]
    exact HM.out.1
  · exact HO3.out.trans HM.out.2
def RelE (w : World) (B : List Bool) (p : Nat) (i : Value) (wr : World) : Prop := ∃ c : Nat, p + c ≤ B.length ∧ i = .int .i64 ((p + c : Nat) : Int) ∧ (∀ q, q < c → B.getD (p + q) false = false) ∧ Still w wr
theorem relE_next {w w' : World} {B : List Bool} {p c m : Nat} (hc : p + c < B.length) (hz : ∀ q, q < c → B.getD (p + q) false = false) (hm : p + c = m) (ht : B.getD m false = false) (hs : Still w w') : RelE w B p (.int .i64 ((m : Int) + 1)) w' := by
  subst hm
  refine ⟨c + 1, hc, rfl, fun q hq => ?_, hs⟩
  by_cases h : q = c
  · subst h; exact ht
  · exact hz q (by omega)
end Go.Proofs.Ytinggfelgcdkfaa
