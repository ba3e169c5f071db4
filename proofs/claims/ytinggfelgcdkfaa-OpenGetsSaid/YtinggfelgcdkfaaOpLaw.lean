/-
  The laws of package open: the helpers 'same' and 'ahead', and the document's examples.
-/
import Derived.Test.YtinggfelgcdkfaaWLaw
import Derived.Test.YtinggfelgcdkfaaOpN
import Derived.Test.YtinggfelgcdkfaaOpCut
import Derived.Test.YtinggfelgcdkfaaOpGet2
namespace Go.Proofs.Ytinggfelgcdkfaa
open Go.RowKit
set_option linter.unusedVariables false
set_option linter.unusedSimpArgs false
set_option maxRecDepth 100000

theorem opsame_yes (w : World) (s1 s2 : Value) (l : List Nat) (h1 : SlAt w s1 l) (h2 : SlAt w s2 l) :
    Calls Try.prog 15 #[s1, s2] w fun e w' => e = .returned (.bool true) ∧ w = w' := by
  have c1 := conv_sl w s1 l h1
  have c2 := conv_sl w s2 l h2
  clear h1 h2
  go_enter Try.func15, Try.ntmps15
  go_wp2
  go_ret
  exact ⟨rfl, rfl⟩
theorem opahead_ok (k : Int) (w : World) :
    Calls Try.prog 11 #[.int .i64 k] w fun e w' => ∃ b m : Nat, m ≤ 7 ∧ (m : Int) = k % 8 ∧ e = .returned (.tuple #[.pointer (some ⟨b, 0, none⟩), .string (bchars (List.replicate m true))]) ∧ w.heap.size ≤ b ∧ WrAt w' b (List.replicate m true) ∧ Below w.heap.size w w' := by
  obtain ⟨m, hm⟩ : ∃ m : Nat, (m : Int) = k % 8 := ⟨(k % 8).toNat, by omega⟩
  have hm7 : m ≤ 7 := by omega
  have hk := i64_and7 k
  rw [← hm] at hk
  have HM := Lib.hid hm
  clear hm
  go_enter Try.func11, Try.ntmps11
  go_wp2_with (refine wpList_box_writer rfl rfl rfl 7 rfl rfl (by kernel_rfl) ?_; intro w1 hw1 hb1 hs1)
  have HW1 := Lib.hid hw1
  have HB1 := Lib.hid hb1
  clear hw1 hb1
  go_loopw [5, 6] (fun s i wr => RelH w m w.heap.size s i wr) (fun _ i _ => m - (intOf i).toNat)
  case atStart => exact ⟨0, Nat.zero_le _, rfl, rfl, HW1.out, HB1.out⟩
  case round =>
    obtain ⟨j, hj, rfl, rfl, hwr, hbl⟩ := hrel
    have HW := Lib.hid hwr
    have HB := Lib.hid hbl
    clear hwr hbl
    by_cases hlt : j < m
    · have q1 : decide ((j : Int) < (m : Int)) = true := decide_eq_true (by omega)
      have hz : ¬ (9223372036854775807 < (bchars (List.replicate j true)).size + 1) := by rw [bchars_size, List.length_replicate]; omega
      go_wp2_with fail
      refine (put_ok _ _ _ 1 1 HW.out (by omega) (by omega) (by simp; omega)).mono ?_
      rintro e w2 ⟨rfl, h1, h2⟩
      have H1 := Lib.hid h1
      have H2 := Lib.hid (HB.out.trans (h2.below (Nat.le_refl _) HB.out.size))
      clear h1 h2 HW HB
      go_wp2_with fail
      go_roundw
      case rel => exact relH_next hlt rfl H1.out H2.out
      case measure => simp [intOf]; omega
    · obtain rfl : j = m := by omega
      have q1 : decide ((j : Int) < (j : Int)) = false := decide_eq_false (by omega)
      go_wp2_with fail
      go_ret2
      exact ⟨_, j, hm7, HM.out, rfl, Nat.le_refl _, HW.out, HB.out⟩
theorem opawake1 : itemB false [] (low (300 - 1 : Int).toNat (cnt (300 - 1 : Int).toNat)) = bitsOf [2, 1, 43] := by decide
theorem opawake2 : itemB false (bitsOf [2, 1, 43]) (low (u64n (-1)) (scnt (-1))) = bitsOf [2, 1, 43, 1, 255] := by decide
theorem opawake3 : opB false (bitsOf [2, 1, 43, 1, 255]) [7, 8] = bitsOf [2, 1, 43, 1, 255, 2, 7, 8] := by
  rw [opB_last (by decide)]
  decide
theorem opawake4 : wb (bitsOf [2, 1, 43, 1, 255, 2, 7, 8]) = [2, 1, 43, 1, 255, 2, 7, 8] := by decide
theorem opawake5 : (semiR (rdTak [2, 1, 43] (rlF false [2, 1, 43] 0)) 1).e = 0 ∧ (semiR (rdTak [2, 1, 43] (rlF false [2, 1, 43] 0)) 1).v = 300 := by decide
theorem lit_sb {w : World} {b : Nat} (l : List Nat) (hl : ∀ i, l.getD i 0 < 256) (cs : Array Value) (hc : (u8s l).toArray = cs) (n : Nat) (hn : n = l.length) (hb : b ≠ w.heap.size) : Sb (w.alloc (.cells cs 5)) b (.slice (some ⟨w.heap.size, 0, none⟩) n n) l := by
  subst hc
  subst hn
  exact ⟨_, _, rfl, Nat.le_refl _, .inr ⟨_, 0, rfl, data_of_row _ _ _ (heap_alloc_new w _) hl, hb.symm⟩⟩
set_option maxHeartbeats 2000000 in
theorem opawake (w : World) : Calls Try.prog 10 #[] w fun e w' => e = .returned (.bool true) ∧ Below w.heap.size w w' := by
  have HA1 := Lib.hid opawake1
  have HA2 := Lib.hid opawake2
  have HA3 := Lib.hid opawake3
  have HA4 := Lib.hid opawake4
  have HA5 := Lib.hid opawake5
  have hl1 : (bitsOf [2, 1, 43]).length ≤ 1000 := by rw [bitsOf_length]; decide
  have hl2 : (bitsOf [2, 1, 43, 1, 255]).length ≤ 1000 := by rw [bitsOf_length]; decide
  have hl3 : (bitsOf [2, 1, 43, 1, 255, 2, 7, 8]).length ≤ 1000 := by rw [bitsOf_length]; decide
  generalize bitsOf [2, 1, 43, 1, 255, 2, 7, 8] = B3 at *
  generalize bitsOf [2, 1, 43, 1, 255] = B2 at *
  generalize bitsOf [2, 1, 43] = B1 at *
  go_enter Try.func10, Try.ntmps10
  go_wp2_with (refine wpList_box_writer rfl rfl rfl 7 rfl rfl (by kernel_rfl) ?_; intro w1 hw1 hb1 hs1)
  have HP := oput_semi w1 w.heap.size [] false 300 1 hw1 (by decide) (by decide) (by decide) (by decide)
  rw [HA1.out] at HP
  refine HP.mono ?_
  rintro e w2 ⟨rfl, h1, h2⟩
  have H1 := Lib.hid h1
  have H2 := Lib.hid (hb1.trans (h2.below (Nat.le_refl _) (by omega)))
  clear h1 h2 hw1 hb1 hs1 HP
  go_wp2_with fail
  have HP := oput_any_int w2 w.heap.size B1 false (-1) H1.out (by decide) (by decide) (by omega)
  rw [HA2.out] at HP
  refine HP.mono ?_
  rintro e w3 ⟨rfl, h1, h2⟩
  have H3 := Lib.hid h1
  have H4 := Lib.hid (H2.out.trans (h2.below (Nat.le_refl _) H2.out.size))
  clear h1 h2 H1 H2 HP
  go_wp2_with fail
  have hb3 := H3.out.lt
  have HP := oput_any (w3.alloc (.cells (u8s [7, 8]).toArray 5)) w.heap.size B2 false _ [7, 8] (H3.out.below ((Below.refl _ _).alloc (Nat.le_refl _) _)) (lit_sb [7, 8] (lt256 rfl) _ rfl 2 rfl (by omega)) (by simp; omega) (by decide)
  rw [HA3.out] at HP
  refine HP.mono ?_
  rintro e w4 ⟨rfl, h1, h2⟩
  have H5 := Lib.hid h1
  have H6 := Lib.hid ((lit_below H4.out (.cells (u8s [7, 8]).toArray 5)).trans (h2.below (Nat.le_refl _) (lit_below H4.out _).size))
  clear h1 h2 H3 H4 HP
  go_wp2_with fail
  refine (new_ok _ _ [2, 1, 43] (lit_sl w4 [2, 1, 43] (lt256 rfl) _ rfl 3 rfl) (by decide)).mono ?_
  rintro e w5 ⟨s, r, rfl, hr1, hrd1, hb5⟩
  have hb5' := ((Below.refl w4.heap.size w4).alloc (Nat.le_refl _) (.cells (u8s [2, 1, 43]).toArray 5)).trans (hb5.mono (by simp))
  have H7 := Lib.hid (H5.out.below hb5')
  have H8 := Lib.hid (H6.out.trans (hb5'.mono H6.out.size))
  have HR := Lib.hid hrd1
  have hbr : w.heap.size ≠ r := by have := H5.out.lt; simp at hr1; omega
  have hrw : w.heap.size ≤ r := by have := H5.out.lt; simp at hr1; omega
  clear hr1 hrd1 hb5 hb5' H5 H6
  go_wp2_with fail
  have HG := oget_semi w5 r [2, 1, 43] 0 false 1 HR.out (by decide) (by decide) (by decide)
  revert HG
  generalize semiR (rdTak [2, 1, 43] (rlF false [2, 1, 43] 0)) 1 = o at *
  obtain ⟨oe, ov, op⟩ := o
  obtain ⟨e1, e2⟩ := HA5.out
  have e1 : oe = 0 := e1
  have e2 : ov = 300 := e2
  subst e1
  subst e2
  intro HG
  refine HG.mono ?_
  rintro e w6 ⟨rfl, h1, h2⟩
  have H9 := Lib.hid (H7.out.keep h2 hbr (HR.out.no_wr _))
  have H10 := Lib.hid (H8.out.trans (h2.below hrw H8.out.size))
  clear h1 h2 H7 H8 HG HR
  go_wp2_with fail
  have HW := wbytes_any w6 w.heap.size B3 H9.out (by omega)
  rw [HA4.out] at HW
  refine HW.mono ?_
  rintro e w7 ⟨rfl, hr7, hb7⟩
  have hS := sl_of_row (n := 8) hr7 (lt256 rfl) rfl
  have H11 := Lib.hid (H10.out.trans (hb7.mono H10.out.size))
  have HS := Lib.hid (hS.below ((Below.refl _ _).alloc (Nat.le_refl _) (.cells (u8s [2, 1, 43, 1, 255, 2, 7, 8]).toArray 5)))
  clear hr7 hb7 hS H9 H10 HW
  go_wp2_with fail
  refine (opsame_yes _ _ _ [2, 1, 43, 1, 255, 2, 7, 8] HS.out (lit_sl w7 [2, 1, 43, 1, 255, 2, 7, 8] (lt256 rfl) _ rfl _ rfl)).mono ?_
  rintro e w8 ⟨rfl, rfl⟩
  have H12 := Lib.hid (lit_below H11.out (.cells (u8s [2, 1, 43, 1, 255, 2, 7, 8]).toArray 5))
  go_wp2_with fail
  go_ret
  exact ⟨rfl, H12.out⟩
theorem Sb.below {w w' : World} {b : Nat} {v : Value} {l : List Nat} (h : Sb w b v l) (ho : Below w.heap.size w w') : Sb w' b v l := by
  obtain ⟨a, cap, rfl, hc, h0 | ⟨g, o, rfl, hd, hg⟩⟩ := h
  · exact ⟨_, _, rfl, hc, .inl h0⟩
  · exact ⟨_, _, rfl, hc, .inr ⟨g, o, rfl, hd.below ho, hg⟩⟩
theorem sb_of_isRow {w : World} {a : Option Addr} {len cap : Nat} {zs : List Int} (h : IsRow .u8 w a len cap zs) : ∃ l, (∀ b, w.heap.size ≤ b → Sb w b (.slice a len cap) l) ∧ l.length = len := by
  have hcap : len ≤ cap := by
    rcases h with ⟨rfl, rfl, rfl, rfl⟩ | ⟨x, rfl, hl, _⟩
    · exact Nat.le_refl _
    · exact hl
  obtain ⟨l, hs, hl⟩ := sl_of_isRow h
  refine ⟨l, fun b hb => ?_, hl⟩
  subst hl
  rcases hs with ⟨g, o, cap', e, hd⟩ | ⟨h0, _⟩
  · injection e with e1 e2 e3
    subst e1
    by_cases h0 : l = []
    · exact ⟨_, _, rfl, hcap, .inl h0⟩
    · refine ⟨_, _, rfl, hcap, .inr ⟨g, o, rfl, hd, ?_⟩⟩
      have := World.block_lt_of_cell? w _ (hd.cell 0 (by cases l <;> simp_all))
      intro e
      subst e
      simp at this
      omega
  · exact ⟨_, _, rfl, hcap, .inl h0⟩
theorem sb_lt {w : World} {b : Nat} {v : Value} {l : List Nat} (h : Sb w b v l) (i : Nat) : l.getD i 0 < 256 := by
  obtain ⟨a, cap, rfl, hc, rfl | ⟨g, o, rfl, hd, hg⟩⟩ := h
  · simp
  · exact hd.byte i
theorem wb_le {W : List Bool} {n : Nat} (h : W.length ≤ 8 * n) (hn : 1 ≤ n) : (wb W).length ≤ n := by
  unfold wb
  split
  · simpa using hn
  · rw [octs_length]; omega
theorem op_and65535 (n : Int) : bits .and .i64 n 65535 = n % 65536 := by
  have h7 : (BitVec.ofInt 64 65535).toNat = 2 ^ 16 - 1 := by decide
  have key : (BitVec.ofInt 64 n &&& BitVec.ofInt 64 65535).toNat = (n % ((2 ^ 64 : Nat) : Int)).toNat % 2 ^ 16 := by
    rw [BitVec.toNat_and, BitVec.toNat_ofInt, h7, Nat.and_two_pow_sub_one_eq_mod]
  show IntKind.i64.wrap ((BitVec.ofInt 64 n &&& BitVec.ofInt 64 65535).toNat : Nat) = n % 65536
  rw [key, IntKind.wrap_i64]
  omega
end Go.Proofs.Ytinggfelgcdkfaa
