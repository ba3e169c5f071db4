/-
  The laws of package whole: the helpers 'same' and 'ahead', and the document's examples.
-/
import Derived.Test.YtieefphfldkbhaaWGet2
import Derived.Test.YtieefphfldkbhaaLit
import Derived.Test.YtieefphfldkbhaaRef2
namespace Go.Proofs.Ytieefphfldkbhaa
open Go.RowKit
set_option linter.unusedVariables false
set_option linter.unusedSimpArgs false

theorem i64_and7 (n : Int) : bits .and .i64 n 7 = n % 8 := by
  have h7 : (BitVec.ofInt 64 7).toNat = 2 ^ 3 - 1 := by decide
  have key : (BitVec.ofInt 64 n &&& BitVec.ofInt 64 7).toNat = (n % ((2 ^ 64 : Nat) : Int)).toNat % 2 ^ 3 := by
    rw [BitVec.toNat_and, BitVec.toNat_ofInt, h7, Nat.and_two_pow_sub_one_eq_mod]
  show IntKind.i64.wrap ((BitVec.ofInt 64 n &&& BitVec.ofInt 64 7).toNat : Nat) = n % 8
  rw [key, IntKind.wrap_i64]
  omega
theorem wsame_yes (w : World) (s1 s2 : Value) (l : List Nat) (h1 : SlAt w s1 l) (h2 : SlAt w s2 l) :
    Calls Try.prog 15 #[s1, s2] w fun e w' => e = .returned (.bool true) ∧ w = w' := by
  have c1 := conv_sl w s1 l h1
  have c2 := conv_sl w s2 l h2
  clear h1 h2
  go_enter Try.func15, Try.ntmps15
  go_wp2
  go_ret
  exact ⟨rfl, rfl⟩
theorem bchars_snoc (j : Nat) : bchars (List.replicate j true) ++ ⟨#[49]⟩ = bchars (List.replicate (j + 1) true) := by
  apply ByteArray.ext
  rw [ByteArray.data_append]
  unfold bchars
  rw [List.replicate_succ', List.map_append]
  apply Array.ext'
  simp [bch]
def RelH (w : World) (m b : Nat) (sv i : Value) (wr : World) : Prop := ∃ j : Nat, j ≤ m ∧ i = .int .i64 j ∧ sv = .string (bchars (List.replicate j true)) ∧ WrAt wr b (List.replicate j true) ∧ Below w.heap.size w wr
theorem relH_next {w w2 : World} {m b j : Nat} {s : ByteArray} (hj : j < m) (hs : s = bchars (List.replicate j true) ++ ⟨#[49]⟩) (h : WrAt w2 b (List.replicate j true ++ nb 1 1)) (hb : Below w.heap.size w w2) : RelH w m b (.string s) (.int .i64 ((j : Int) + 1)) w2 :=
  ⟨j + 1, hj, by go_num, by rw [hs, bchars_snoc], by rw [List.replicate_succ']; exact h, hb⟩
theorem ahead_ok (k : Int) (w : World) :
    Calls Try.prog 11 #[.int .i64 k] w fun e w' => ∃ b m : Nat, m ≤ 7 ∧ (m : Int) = k % 8 ∧ e = .returned (.tuple #[.pointer (some ⟨b, 0, none⟩), .string (bchars (List.replicate m true))]) ∧ w.heap.size ≤ b ∧ WrAt w' b (List.replicate m true) ∧ Below w.heap.size w w' := by
  obtain ⟨m, hm⟩ : ∃ m : Nat, (m : Int) = k % 8 := ⟨(k % 8).toNat, by omega⟩
  have hm7 : m ≤ 7 := by omega
  have hk := i64_and7 k
  rw [← hm] at hk
  have HM := Lib.hid hm
  clear hm
  go_enter Try.func11, Try.ntmps11
  go_wp2_with (refine wpList_box_writer rfl rfl rfl 7 rfl rfl (by kernel_rfl) ?_; intro w1 hw1 hb1 hs1)
  have HW1 := Lib.hid hw1
  have HB1 := Lib.hid hb1
  clear hw1 hb1
  go_loopw [5, 6] (fun s i wr => RelH w m w.heap.size s i wr) (fun _ i _ => m - (intOf i).toNat)
  case atStart => exact ⟨0, Nat.zero_le _, rfl, rfl, HW1.out, HB1.out⟩
  case round =>
    obtain ⟨j, hj, rfl, rfl, hwr, hbl⟩ := hrel
    have HW := Lib.hid hwr
    have HB := Lib.hid hbl
    clear hwr hbl
    by_cases hlt : j < m
    · have q1 : decide ((j : Int) < (m : Int)) = true := decide_eq_true (by omega)
      have hz : ¬ (9223372036854775807 < (bchars (List.replicate j true)).size + 1) := by rw [bchars_size, List.length_replicate]; omega
      go_wp2_with fail
      refine (put_ok _ _ _ 1 1 HW.out (by omega) (by omega) (by simp; omega)).mono ?_
      rintro e w2 ⟨rfl, h1, h2⟩
      have H1 := Lib.hid h1
      have H2 := Lib.hid (HB.out.trans (h2.below (Nat.le_refl _) HB.out.size))
      clear h1 h2 HW HB
      go_wp2_with fail
      go_roundw
      case rel => exact relH_next hlt rfl H1.out H2.out
      case measure => simp [intOf]; omega
    · obtain rfl : j = m := by omega
      have q1 : decide ((j : Int) < (j : Int)) = false := decide_eq_false (by omega)
      go_wp2_with fail
      go_ret2
      exact ⟨_, j, hm7, HM.out, rfl, Nat.le_refl _, HW.out, HB.out⟩
set_option maxHeartbeats 2000000 in
theorem wawake (w : World) : Calls Try.prog 10 #[] w fun e w' => e = .returned (.bool true) ∧ Below w.heap.size w w' := by
  go_enter Try.func10, Try.ntmps10
  go_wp2_with (refine wpList_box_writer rfl rfl rfl 6 rfl rfl (by kernel_rfl) ?_; intro w1 hw1 hb1 hs1)
  refine (wput_any w1 w.heap.size [] false 5 0 7 hw1 (by decide) (by decide) (by decide) (by decide)).mono ?_
  rw [show wErr 5 0 7 = 0 by decide, show wBits false [] 5 0 7 = [true, false, true] by decide]
  rintro e w2 ⟨rfl, h1, h2⟩
  have H1 := Lib.hid h1
  have H2 := Lib.hid (hb1.trans (h2.below (Nat.le_refl _) (by omega)))
  clear h1 h2 hw1 hb1 hs1
  go_wp2_with fail
  refine (wput_any w2 w.heap.size _ true 2 1 300 H1.out (by decide) (by decide) (by decide) (by decide)).mono ?_
  rw [show wErr 2 1 300 = 0 by decide, show wBits true [true, false, true] 2 1 300 = [true, false, true, false, false, false, false, false, false, false, false, false, false, false, false, false, false, false, false, false, false, false, false, true] by decide]
  rintro e w3 ⟨rfl, h1, h2⟩
  have H3 := Lib.hid h1
  have H4 := Lib.hid (H2.out.trans (h2.below (Nat.le_refl _) H2.out.size))
  clear h1 h2 H1 H2
  go_wp2_with fail
  refine (new_ok _ _ [160] (lit_sl w3 [160] (lt256 rfl) _ rfl _ rfl) (by decide)).mono ?_
  rintro e w4 ⟨s, r, rfl, hr0, hr, hb⟩
  have hx : w3.heap.size < (w3.alloc (.cells (u8s [160]).toArray 5)).heap.size := by simp
  have H5 := Lib.hid (lit_below H4.out (.cells (u8s [160]).toArray 5))
  have H6 := Lib.hid (H3.out.below ((Below.refl _ _).alloc (Nat.le_refl _) (.cells (u8s [160]).toArray 5)))
  have H7 := Lib.hid (H5.out.trans (hb.mono H5.out.size))
  have H8 := Lib.hid (H6.out.below hb)
  have H9 := Lib.hid hr
  have hlr : w.heap.size < r := by have := H3.out.lt; have := H4.out.size; omega
  clear hb hr hr0 hx H3 H4 H5 H6
  go_wp2_with fail
  refine (wget_any w4 r [160] 0 false 0 7 H9.out (by decide) (by decide) (by decide)).mono ?_
  rw [show gN false [160] 0 0 7 = 5 by decide, show gE false [160] 0 0 7 = 0 by decide]
  rintro e w5 ⟨rfl, h1, h2⟩
  have H10 := Lib.hid (H7.out.trans (h2.below (Nat.le_of_lt hlr) H7.out.size))
  have H11 := Lib.hid (H8.out.keep h2 (by omega) (fun c' q' e => by
    obtain ⟨hc, _⟩ := H9.out
    rw [hc] at e
    unfold chObj at e
    injection e with e
    injection e with e1 e2 e3
    exact absurd e2 (by decide)))
  clear h1 h2 H7 H8 H9 hlr
  go_wp2_with fail
  refine (wbytes_any w5 _ _ H11.out (by decide)).mono ?_
  rw [show wb [true, false, true, false, false, false, false, false, false, false, false, false, false, false, false, false, false, false, false, false, false, false, false, true] = [160, 0, 1] by decide]
  rintro e w6 ⟨rfl, hr6, hb6⟩
  have hS := sl_of_row (n := 3) hr6 (lt256 rfl) rfl
  have H12 := Lib.hid (H10.out.trans (hb6.mono H10.out.size))
  have HS := Lib.hid (hS.below ((Below.refl _ _).alloc (Nat.le_refl _) (.cells (u8s [160, 0, 1]).toArray 5)))
  clear hr6 hb6 hS H10 H11
  go_wp2_with fail
  refine (wsame_yes _ _ _ [160, 0, 1] HS.out (lit_sl w6 [160, 0, 1] (lt256 rfl) _ rfl _ rfl)).mono ?_
  rintro e w7 ⟨rfl, rfl⟩
  have H13 := Lib.hid (lit_below H12.out (.cells (u8s [160, 0, 1]).toArray 5))
  go_wp2_with fail
  go_ret
  exact ⟨rfl, H13.out⟩
theorem wr_zero (w : World) : WrAt (w.alloc (.cells Try.zeroCells55 55)) w.heap.size [] := by
  rw [show Try.zeroCells55 = newCells from by kernel_rfl]
  exact wr_new w
/-- a second Writer, new -/
theorem second (w : World) : ∃ w2, w2 = w.alloc (.cells Try.zeroCells55 55) ∧ WrAt w2 w.heap.size [] ∧ Below w.heap.size w w2 ∧ w.heap.size < w2.heap.size := ⟨_, rfl, wr_zero w, (Below.refl _ _).alloc (Nat.le_refl _) _, by simp⟩
theorem wb_len {W : List Bool} (h : W.length ≤ 100) : (wb W).length ≤ 1000 := by
  unfold wb
  split
  · simp
  · rw [octs_length]; omega
theorem read_one (v k : Nat) (hk : k ≤ 64) (hv : v < 2 ^ k) : gerr (wb (nb v k)) 0 k = 0 ∧ gval (wb (nb v k)) 0 k = v := by
  obtain ⟨h1, h2, _⟩ := get_has (Has.wb (W := nb v k) (A := []) (S := nb v k) (R := []) (by simp)) 0 k rfl (nb_length v k).symm hk
  exact ⟨h1, by rw [h2, num_nb v k hv]⟩
theorem RdAt.no_wr {w : World} {r : Nat} {s : Value} {L : List Nat} {p : Nat} (h : RdAt w r s L p) (B : List Bool) (c' : Option Addr) (q' : Nat) : w.heap[r]? ≠ some (chObj c' B q') := by
  intro e
  obtain ⟨hc, _⟩ := h
  rw [hc] at e
  unfold chObj at e
  injection e with e
  injection e with e1 e2 e3
  exact absurd e2 (by decide)
end Go.Proofs.Ytieefphfldkbhaa
