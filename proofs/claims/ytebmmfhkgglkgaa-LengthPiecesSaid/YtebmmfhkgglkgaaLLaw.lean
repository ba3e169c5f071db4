/-
  The laws of package length: the helpers 'same' and 'ahead', and the document's examples.
-/
import Derived.Test.YtebmmfhkgglkgaaWLaw
import Derived.Test.YtebmmfhkgglkgaaLen
namespace Go.Proofs.Ytebmmfhkgglkgaa
open Go.RowKit
set_option linter.unusedVariables false
set_option linter.unusedSimpArgs false
set_option maxRecDepth 100000

theorem lsame_yes (w : World) (s1 s2 : Value) (l : List Nat) (h1 : SlAt w s1 l) (h2 : SlAt w s2 l) :
    Calls Try.prog 16 #[s1, s2] w fun e w' => e = .returned (.bool true) ∧ w = w' := by
  have c1 := conv_sl w s1 l h1
  have c2 := conv_sl w s2 l h2
  clear h1 h2
  go_enter Try.func16, Try.ntmps16
  go_wp2
  go_ret
  exact ⟨rfl, rfl⟩
theorem lahead_ok (k : Int) (w : World) :
    Calls Try.prog 11 #[.int .i64 k] w fun e w' => ∃ b m : Nat, m ≤ 7 ∧ (m : Int) = k % 8 ∧ e = .returned (.tuple #[.pointer (some ⟨b, 0, none⟩), .string (bchars (List.replicate m true))]) ∧ w.heap.size ≤ b ∧ WrAt w' b (List.replicate m true) ∧ Below w.heap.size w w' := by
  obtain ⟨m, hm⟩ : ∃ m : Nat, (m : Int) = k % 8 := ⟨(k % 8).toNat, by omega⟩
  have hm7 : m ≤ 7 := by omega
  have hk := i64_and7 k
  rw [← hm] at hk
  have HM := Lib.hid hm
  clear hm
  go_enter Try.func11, Try.ntmps11
  go_wp2_with (refine wpList_box_writer rfl rfl rfl 7 rfl rfl (by kernel_rfl) ?_; intro w1 hw1 hb1 hs1)
  have HW1 := Lib.hid hw1
  have HB1 := Lib.hid hb1
  clear hw1 hb1
  go_loopw [5, 6] (fun s i wr => RelH w m w.heap.size s i wr) (fun _ i _ => m - (intOf i).toNat)
  case atStart => exact ⟨0, Nat.zero_le _, rfl, rfl, HW1.out, HB1.out⟩
  case round =>
    obtain ⟨j, hj, rfl, rfl, hwr, hbl⟩ := hrel
    have HW := Lib.hid hwr
    have HB := Lib.hid hbl
    clear hwr hbl
    by_cases hlt : j < m
    · have q1 : decide ((j : Int) < (m : Int)) = true := decide_eq_true (by omega)
      have hz : ¬ (9223372036854775807 < (bchars (List.replicate j true)).size + 1) := by rw [bchars_size, List.length_replicate]; omega
      go_wp2_with fail
      refine (put_ok _ _ _ 1 1 HW.out (by omega) (by omega) (by simp; omega)).mono ?_
      rintro e w2 ⟨rfl, h1, h2⟩
      have H1 := Lib.hid h1
      have H2 := Lib.hid (HB.out.trans (h2.below (Nat.le_refl _) HB.out.size))
      clear h1 h2 HW HB
      go_wp2_with fail
      go_roundw
      case rel => exact relH_next hlt rfl H1.out H2.out
      case measure => simp [intOf]; omega
    · obtain rfl : j = m := by omega
      have q1 : decide ((j : Int) < (j : Int)) = false := decide_eq_false (by omega)
      go_wp2_with fail
      go_ret2
      exact ⟨_, j, hm7, HM.out, rfl, Nat.le_refl _, HW.out, HB.out⟩
theorem awake1 : lErr 200 0 (-1) = 0 ∧ lCnt 200 0 (-1) = 200 ∧ lMore 200 0 (-1) = false ∧ lBits true [] 200 0 (-1) = nb 32968 16 := by decide
theorem awake2 : lErr 70000 0 (-1) = 0 ∧ lCnt 70000 0 (-1) = 65536 ∧ lMore 70000 0 (-1) = true ∧ lBits true (nb 32968 16) 70000 0 (-1) = nb 32968 16 ++ nb 196 8 := by decide
theorem awake3 : sErr 3 = 0 ∧ sBits true (nb 32968 16 ++ nb 196 8) 3 = nb 32968 16 ++ nb 196 8 ++ nb 3 7 := by decide
theorem awake4 : wb (nb 32968 16 ++ nb 196 8 ++ nb 3 7) = [128, 200, 196, 6] := by decide
set_option maxHeartbeats 2000000 in
theorem lawake (w : World) : Calls Try.prog 10 #[] w fun e w' => e = .returned (.bool true) ∧ Below w.heap.size w w' := by
  have HA1 := Lib.hid awake1
  have HA2 := Lib.hid awake2
  have HA3 := Lib.hid awake3
  have HA4 := Lib.hid awake4
  have hl1 : (nb 32968 16).length ≤ 1000 := by rw [nb_length]; decide
  have hl2 : (nb 32968 16 ++ nb 196 8).length ≤ 1000 := by rw [List.length_append, nb_length, nb_length]; decide
  have hl3 : (nb 32968 16 ++ nb 196 8 ++ nb 3 7).length ≤ 1000 := by rw [List.length_append, List.length_append, nb_length, nb_length, nb_length]; decide
  generalize nb 32968 16 ++ nb 196 8 ++ nb 3 7 = B3 at *
  generalize nb 32968 16 ++ nb 196 8 = B2 at *
  generalize nb 32968 16 = B1 at *
  go_enter Try.func10, Try.ntmps10
  go_wp2_with (refine wpList_box_writer rfl rfl rfl 9 rfl rfl (by kernel_rfl) ?_; intro w1 hw1 hb1 hs1)
  have HP := lput_any w1 w.heap.size [] true 200 0 (-1) hw1 (by decide) (by decide) (by decide) (by decide)
  rw [HA1.out.1, HA1.out.2.1, HA1.out.2.2.1, HA1.out.2.2.2] at HP
  refine HP.mono ?_
  rintro e w2 ⟨rfl, h1, h2⟩
  have H1 := Lib.hid h1
  have H2 := Lib.hid (hb1.trans (h2.below (Nat.le_refl _) (by omega)))
  clear h1 h2 hw1 hb1 hs1 HP
  go_wp2_with fail
  have HP := lput_any w2 w.heap.size B1 true 70000 0 (-1) H1.out (by decide) (by decide) (by decide) (by omega)
  rw [HA2.out.1, HA2.out.2.1, HA2.out.2.2.1, HA2.out.2.2.2] at HP
  refine HP.mono ?_
  rintro e w3 ⟨rfl, h1, h2⟩
  have H3 := Lib.hid h1
  have H4 := Lib.hid (H2.out.trans (h2.below (Nat.le_refl _) H2.out.size))
  clear h1 h2 H1 H2 HP
  go_wp2_with fail
  have HP := sput_any w3 w.heap.size B2 true 3 H3.out (by decide) (by omega)
  rw [HA3.out.1, HA3.out.2] at HP
  refine HP.mono ?_
  rintro e w4 ⟨rfl, h1, h2⟩
  have H5 := Lib.hid h1
  have H6 := Lib.hid (H4.out.trans (h2.below (Nat.le_refl _) H4.out.size))
  clear h1 h2 H3 H4 HP
  go_wp2_with fail
  have HW := wbytes_any w4 w.heap.size B3 H5.out (by omega)
  rw [HA4.out] at HW
  refine HW.mono ?_
  rintro e w5 ⟨rfl, hr5, hb5⟩
  have hS := sl_of_row (n := 4) hr5 (lt256 rfl) rfl
  have H7 := Lib.hid (H6.out.trans (hb5.mono H6.out.size))
  have HS := Lib.hid (hS.below ((Below.refl _ _).alloc (Nat.le_refl _) (.cells (u8s [128, 200, 196, 6]).toArray 5)))
  clear hr5 hb5 hS H5 H6 HW
  go_wp2_with fail
  refine (lsame_yes _ _ _ [128, 200, 196, 6] HS.out (lit_sl w5 [128, 200, 196, 6] (lt256 rfl) _ rfl _ rfl)).mono ?_
  rintro e w6 ⟨rfl, rfl⟩
  have H8 := Lib.hid (lit_below H7.out (.cells (u8s [128, 200, 196, 6]).toArray 5))
  go_wp2_with fail
  go_ret
  exact ⟨rfl, H8.out⟩
end Go.Proofs.Ytebmmfhkgglkgaa
