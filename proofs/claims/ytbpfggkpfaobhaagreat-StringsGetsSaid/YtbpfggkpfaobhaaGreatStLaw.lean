/-
  The laws of package strings: the helpers 'same' and 'ahead', and the document's examples.
-/
import Derived.Test.YtbpfggkpfaobhaaGreatWLaw
import Derived.Test.YtbpfggkpfaobhaaGreatStApi
namespace Go.Proofs.YtbpfggkpfaobhaaGreat
open Go.RowKit
set_option linter.unusedVariables false
set_option linter.unusedSimpArgs false
set_option maxRecDepth 100000

theorem stsame_yes (w : World) (s1 s2 : Value) (l : List Nat) (h1 : SlAt w s1 l) (h2 : SlAt w s2 l) :
    Calls Tryz.prog 12 #[s1, s2] w fun e w' => e = .returned (.bool true) ∧ w = w' := by
  have c1 := conv_sl w s1 l h1
  have c2 := conv_sl w s2 l h2
  clear h1 h2
  go_enter Tryz.func12, Tryz.ntmps12
  go_wp2
  go_ret
  exact ⟨rfl, rfl⟩
theorem lit_sb {w : World} {b : Nat} (l : List Nat) (hl : ∀ i, l.getD i 0 < 256) (cs : Array Value) (hc : (u8s l).toArray = cs) (n : Nat) (hn : n = l.length) (hb : b ≠ w.heap.size) : Sb (w.alloc (.cells cs 5)) b (.slice (some ⟨w.heap.size, 0, none⟩) n n) l := by
  subst hc
  subst hn
  exact ⟨_, _, rfl, Nat.le_refl _, .inr ⟨_, 0, rfl, data_of_row _ _ _ (heap_alloc_new w _) hl, hb.symm⟩⟩
theorem sb_of_isRow {w : World} {a : Option Addr} {len cap : Nat} {zs : List Int} (h : IsRow .u8 w a len cap zs) : ∃ l, (∀ b, w.heap.size ≤ b → Sb w b (.slice a len cap) l) ∧ l.length = len := by
  have hcap : len ≤ cap := by
    rcases h with ⟨rfl, rfl, rfl, rfl⟩ | ⟨x, rfl, hl, _⟩
    · exact Nat.le_refl _
    · exact hl
  obtain ⟨l, hs, hl⟩ := sl_of_isRow h
  refine ⟨l, fun b hb => ?_, hl⟩
  subst hl
  rcases hs with ⟨g, o, cap', e, hd⟩ | ⟨h0, _⟩
  · injection e with e1 e2 e3
    subst e1
    by_cases h0 : l = []
    · exact ⟨_, _, rfl, hcap, .inl h0⟩
    · refine ⟨_, _, rfl, hcap, .inr ⟨g, o, rfl, hd, ?_⟩⟩
      have := World.block_lt_of_cell? w _ (hd.cell 0 (by cases l <;> simp_all))
      intro e
      subst e
      simp at this
      omega
  · exact ⟨_, _, rfl, hcap, .inl h0⟩
theorem sb_lt {w : World} {b : Nat} {v : Value} {l : List Nat} (h : Sb w b v l) (i : Nat) : l.getD i 0 < 256 := by
  obtain ⟨a, cap, rfl, hc, rfl | ⟨g, o, rfl, hd, hg⟩⟩ := h
  · simp
  · exact hd.byte i
theorem wb_le {W : List Bool} {n : Nat} (h : W.length ≤ 8 * n) (hn : 1 ≤ n) : (wb W).length ≤ n := by
  unfold wb
  split
  · simpa using hn
  · rw [octs_length]; omega
theorem saw1 : sE 2 2 2 = 0 ∧ stB false false 8 [] 2 2 [7, 8] = bitsOf [7, 8] := by decide
theorem saw2 : cods ⟨#[49, 48, 49]⟩ = [49, 48, 49] ∧ isBit [49, 48, 49] = true ∧ bitN [49, 48, 49] = [1, 0, 1] := by decide
theorem saw3 : eE true 3 0 7 = 0 ∧ eB true false false 1 (bitsOf [7, 8]) 0 7 [1, 0, 1] = bitsOf [7, 8] ++ [false, true, true, true, false, true] := by decide
theorem saw4 : cods ⟨#[98]⟩ = [98] ∧ cods ⟨#[97, 98]⟩ = [97, 98] := by decide
theorem saw5 : tE [97, 98] false [98] 0 3 = 0 ∧ tB [97, 98] false [98] (bitsOf [7, 8] ++ [false, true, true, true, false, true]) 0 3 = bitsOf [7, 8] ++ [false, true, true, true, false, true, false, true, true] := by decide
theorem saw6 : wb (bitsOf [7, 8] ++ [false, true, true, true, false, true, false, true, true]) = [7, 8, 117, 128] ∧ (bitsOf [7, 8] ++ [false, true, true, true, false, true, false, true, true]).length = 25 := by decide
theorem saw7 : (rS false false 8 (fun n p => oGo [7, 8] n p) [7, 8] 0 2 2).e = 0 ∧ (rS false false 8 (fun n p => oGo [7, 8] n p) [7, 8] 0 2 2).l = [7, 8] ∧ (gl false [7, 8] 0 2 2).m = false := by decide
theorem saw8 : cods ⟨#[]⟩ = [] ∧ wdT [] true = 8 := by decide
set_option maxHeartbeats 4000000 in
theorem stawake (w : World) : Calls Tryz.prog 4 #[] w fun e w' => e = .returned (.bool true) ∧ Below w.heap.size w w' := by
  have HP1 := Lib.hid (fun (w1 : World) (b : Nat) (s : Value) (h : WrAt w1 b []) (hs : Sb w1 b s [7, 8]) => sputOctets_ok w1 b [] false 2 2 s [7, 8] h hs (by decide) (by decide) (by decide) (by decide))
  have hb1 : (bitsOf [7, 8]).length ≤ 1000 := by rw [bitsOf_length]; decide
  have HP2 := Lib.hid (fun (w1 : World) (b : Nat) (h : WrAt w1 b (bitsOf [7, 8])) => sputBits_ok w1 b (bitsOf [7, 8]) false 0 7 ⟨#[49, 48, 49]⟩ h (by decide) (by decide) (by decide) (by omega))
  have HP3 := Lib.hid (fun (w1 : World) (b : Nat) (h : WrAt w1 b (bitsOf [7, 8] ++ [false, true, true, true, false, true])) => sputText_ok w1 b (bitsOf [7, 8] ++ [false, true, true, true, false, true]) false 0 3 ⟨#[98]⟩ ⟨#[97, 98]⟩ h (by decide) (by decide) (by decide) (by decide) (by rw [List.length_append]; simp; omega))
  rw [show ([7, 8] : List Nat).length = 2 from rfl, saw1.1, saw1.2] at HP1
  rw [saw2.1, saw2.2.1, saw2.2.2, show (⟨#[49, 48, 49]⟩ : ByteArray).size = 3 from rfl, saw3.1, saw3.2] at HP2
  rw [saw4.1, saw4.2, saw5.1, saw5.2] at HP3
  have HG := Lib.hid (fun (w1 : World) (r : Nat) (s : Value) (h : RdAt w1 r s [7, 8] 0) => sgetOctets_ok w1 r s [7, 8] 0 false 2 2 h (by decide) (by decide) (by decide) (fun h => by rw [saw7.2.2] at h; cases h))
  rw [saw7.1, saw7.2.1] at HG
  generalize (rS false false 8 (fun n p => oGo [7, 8] n p) [7, 8] 0 2 2).p = q at *
  have HWt := Lib.hid (fun (w1 : World) => swidth_ok ⟨#[]⟩ true w1 (by decide))
  rw [saw8.1, saw8.2] at HWt
  have HBy := Lib.hid (fun (w1 : World) (b : Nat) h => wbytes_any w1 b (bitsOf [7, 8] ++ [false, true, true, true, false, true, false, true, true]) h (by rw [saw6.2]; decide))
  have HLn := Lib.hid (fun (w1 : World) (b : Nat) h => len_ok w1 b (bitsOf [7, 8] ++ [false, true, true, true, false, true, false, true, true]) h)
  rw [saw6.1] at HBy
  rw [saw6.2] at HLn
  generalize bitsOf [7, 8] ++ [false, true, true, true, false, true, false, true, true] = B3 at *
  generalize bitsOf [7, 8] ++ [false, true, true, true, false, true] = B2 at *
  generalize bitsOf [7, 8] = B1 at *
  clear hb1
  go_enter Tryz.func4, Tryz.ntmps4
  go_wp2_with (refine wpList_box_writer rfl rfl rfl 7 rfl rfl (by kernel_rfl) ?_; intro w1 hw1 hb1 hs1)
  have hbl := (Below.refl w1.heap.size w1).alloc (Nat.le_refl _) (.cells (u8s [7, 8]).toArray 5)
  refine (HP1.out _ _ _ (hw1.below hbl) (lit_sb [7, 8] (lt256 rfl) _ rfl 2 rfl (by omega))).mono ?_
  rintro e w2 ⟨rfl, h1, h2⟩
  have H1 := Lib.hid h1
  have H2 := Lib.hid ((lit_below hb1 (.cells (u8s [7, 8]).toArray 5)).trans (h2.below (Nat.le_refl _) (lit_below hb1 _).size))
  clear h1 h2 hw1 hb1 hs1 hbl HP1
  go_wp2_with fail
  refine (HP2.out w2 _ H1.out).mono ?_
  rintro e w3 ⟨rfl, h1, h2⟩
  have H3 := Lib.hid h1
  have H4 := Lib.hid (H2.out.trans (h2.below (Nat.le_refl _) H2.out.size))
  clear h1 h2 H1 H2 HP2
  go_wp2_with fail
  refine (HP3.out w3 _ H3.out).mono ?_
  rintro e w4 ⟨rfl, h1, h2⟩
  have H5 := Lib.hid h1
  have H6 := Lib.hid (H4.out.trans (h2.below (Nat.le_refl _) H4.out.size))
  clear h1 h2 H3 H4 HP3
  go_wp2_with fail
  refine (new_ok _ _ [7, 8] (lit_sl w4 [7, 8] (lt256 rfl) _ rfl 2 rfl) (by decide)).mono ?_
  rintro e w5 ⟨s, r, rfl, hr1, hrd1, hb5⟩
  have hb5' := ((Below.refl w4.heap.size w4).alloc (Nat.le_refl _) (.cells (u8s [7, 8]).toArray 5)).trans (hb5.mono (by simp))
  have H7 := Lib.hid (H5.out.below hb5')
  have H8 := Lib.hid (H6.out.trans (hb5'.mono H6.out.size))
  have HR := Lib.hid hrd1
  have hbr : w.heap.size ≠ r := by have := H5.out.lt; simp at hr1; omega
  have hrw : w.heap.size ≤ r := by have := H5.out.lt; simp at hr1; omega
  clear hr1 hrd1 hb5 hb5' H5 H6
  go_wp2_with fail
  refine (HG.out w5 r s HR.out).mono ?_
  rintro e w6 ⟨v, rfl, h1, _, h2⟩
  have HV := Lib.hid h1.sl
  have H9 := Lib.hid (H7.out.keep h2 hbr (HR.out.no_wr _))
  have H10 := Lib.hid (H8.out.trans (h2.below hrw H8.out.size))
  clear h1 h2 H7 H8 HG HR
  go_wp2_with fail
  have hbl := (Below.refl w6.heap.size w6).alloc (Nat.le_refl _) (.cells (u8s [7, 8]).toArray 5)
  have h11 := H9.out.below hbl
  have h12 := lit_below H10.out (.cells (u8s [7, 8]).toArray 5)
  have hv7 := HV.out.below hbl
  have hl7 := lit_sl w6 [7, 8] (lt256 rfl) _ rfl 2 rfl
  rw [show (u8s [7, 8]).toArray = #[Value.int .u8 7, Value.int .u8 8] from rfl] at h11 h12 hv7 hl7
  clear hbl H9 H10 HV
  generalize w6.alloc (.cells #[Value.int .u8 7, Value.int .u8 8] 5) = w7 at *
  have H11 := Lib.hid h11
  have H12 := Lib.hid h12
  refine (stsame_yes w7 _ _ [7, 8] hv7 hl7).mono ?_
  rintro e w8 ⟨rfl, rfl⟩
  clear h11 h12 hv7 hl7
  go_wp2_with fail
  refine (HLn.out _ _ H11.out).mono ?_
  rintro e w8 ⟨rfl, rfl⟩
  go_wp2_with fail
  refine (HBy.out _ _ H11.out).mono ?_
  rintro e w9 ⟨rfl, hr7, hb7⟩
  have hS := sl_of_row (n := 4) hr7 (lt256 rfl) rfl
  have H13 := Lib.hid (H12.out.trans (hb7.mono H12.out.size))
  have HS := Lib.hid (hS.below ((Below.refl _ _).alloc (Nat.le_refl _) (.cells (u8s [7, 8, 117, 128]).toArray 5)))
  clear hr7 hb7 hS H11 H12
  go_wp2_with fail
  refine (stsame_yes _ _ _ [7, 8, 117, 128] HS.out (lit_sl w9 [7, 8, 117, 128] (lt256 rfl) _ rfl _ rfl)).mono ?_
  rintro e w10 ⟨rfl, rfl⟩
  have H14 := Lib.hid (lit_below H13.out (.cells (u8s [7, 8, 117, 128]).toArray 5))
  clear HS H13
  go_wp2_with fail
  refine (HWt.out _).mono ?_
  rintro e w11 ⟨rfl, hb1⟩
  have H15 := Lib.hid (H14.out.trans (hb1.mono H14.out.size))
  clear hb1 H14
  go_wp2_with fail
  go_ret
  exact ⟨rfl, H15.out⟩
end Go.Proofs.YtbpfggkpfaobhaaGreat
