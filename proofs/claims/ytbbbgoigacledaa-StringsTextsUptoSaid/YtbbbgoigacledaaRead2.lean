/-
  The Reader's Octets, End and New.
-/
import Derived.Test.YtbbbgoigacledaaRead
import Derived.ArgAppend
import Derived.WalkSpells
namespace Go.Proofs.Ytbbbgoigacledaa
open Go.RowKit
set_option linter.unusedVariables false
set_option linter.unusedSimpArgs false
set_option maxRecDepth 100000

/-- n octets from bit p on -/
def octetsAt (B : List Bool) (p n : Nat) : List Nat := (List.range n).map fun i => bitsAt B (p + 8 * i) 8
theorem octetsAt_length (B : List Bool) (p n : Nat) : (octetsAt B p n).length = n := by simp [octetsAt]
/-- n cells, the first j of them read -/
def readRow (B : List Bool) (p n j : Nat) : List Value := (List.range n).map fun i => Value.int .u8 ((if i < j then bitsAt B (p + 8 * i) 8 else 0 : Nat) : Int)
theorem readRow_length (B : List Bool) (p n j : Nat) : (readRow B p n j).length = n := by simp [readRow]
theorem readRow_zero (B : List Bool) (p n : Nat) : readRow B p n 0 = List.replicate n (Value.int .u8 0) := by
  apply List.ext_getElem? ; intro i
  rcases Nat.lt_or_ge i n with h | h
  · simp [readRow, h]
  · simp [readRow, h]
theorem readRow_full (B : List Bool) (p n : Nat) : readRow B p n n = u8s (octetsAt B p n) := by
  unfold readRow u8s octetsAt
  rw [List.map_map]
  apply List.map_congr_left
  intro i hi
  simp at hi
  simp [hi]
theorem readRow_set (B : List Bool) (p n j : Nat) (h : j < n) : (readRow B p n j).set j (.int .u8 (bitsAt B (p + 8 * j) 8 : Nat)) = readRow B p n (j + 1) := by
  apply List.ext_getElem?
  intro i
  rw [List.getElem?_set, readRow_length]
  by_cases hij : j = i
  · subst hij
    rw [if_pos rfl, if_pos h]
    simp [readRow, h]
  · rw [if_neg hij]
    rcases Nat.lt_or_ge i n with h2 | h2
    · have : (i < j) ↔ (i < j + 1) := by omega
      simp [readRow, h2, this]
    · simp [readRow, h2]
theorem readRow_get (B : List Bool) (p n j i : Nat) (h : i < n) : ∃ x : Nat, (readRow B p n j)[i]? = some (.int .u8 x) := ⟨_, by simp [readRow, h]; rfl⟩

theorem roctets_ok (w : World) (b : Nat) {s : Value} (L : List Nat) (p n : Nat) (h : RdAt w b s L p) (hL : L.length ≤ 10000000000) (hi : p + 8 * n ≤ 8 * L.length) :
    Calls Try.prog 53 #[.pointer (some ⟨b, 0, none⟩), .int .i64 n] w fun e w' =>
      e = .returned (.tuple #[.slice (some ⟨w.heap.size, 0, none⟩) n n, .int .i64 0]) ∧ RdAt w' b s L (p + 8 * n) ∧ w'.heap[w.heap.size]? = some (.cells (u8s (octetsAt (bitsOf L) p n)).toArray 5 (0, 0)) ∧ Only b w w' := by
  have HR := Lib.hid h
  have hlt := h.lt
  clear h
  have hgt : (n : Int) ≤ ((8 * L.length - p : Nat) : Int) / 8 := by omega
  obtain ⟨lf, hlf⟩ : ∃ lf, 8 * L.length - p = lf := ⟨_, rfl⟩
  have hleft := left_ok w b L p HR.out hL
  rw [hlf] at hgt hleft
  have hdec : decide (lf / 8 < n) = false := by simp; omega
  have hdec2 : decide ((lf : Int) / 8 < (n : Int)) = false := by simp; omega
  have hlfb : lf ≤ 80000000000 := by omega
  have HLF := Lib.hid hlf
  have HLEFT := Lib.hid hleft
  have hn0 : ¬ ((n : Int) < 0) := by omega
  clear hlf hleft
  go_enter Try.func53, Try.ntmps53
  go_wp2_with (first | (go_at_call 50; refine HLEFT.out.mono ?_; rintro e w1 ⟨rfl, hst⟩; have HS := Lib.hid hst; clear hst) | (at_make; refine wpList_make_u8 rfl (.tmp 19) (.tmp 19) rfl n (by omega) rfl rfl ?_; intro w2 hG hbl hsz; have HG := Lib.hid hG; have HBL := Lib.hid hbl; clear hG hbl))
  have hsz1 : w1.heap.size = w.heap.size := by rw [HS.out.heap]
  have hG2 : w2.heap[w.heap.size]? = some (.cells (readRow (bitsOf L) p n 0).toArray 5 (0, 0)) := by
    have := HG.out
    rw [hsz1] at this
    rw [readRow_zero]; exact this
  have hbl2 : Below w.heap.size w w2 := (HS.out.below _).trans (HBL.out.mono (by omega))
  have HG2 := Lib.hid hG2
  have HB2 := Lib.hid hbl2
  have HR2 := Lib.hid (HR.out.below hbl2)
  rw [hsz1] at hsz ⊢
  clear hsz1 hG2 hbl2 HG HBL HS HLEFT hdec hdec2 hgt
  go_loopw [23] (fun i wr => ∃ j : Nat, j ≤ n ∧ i = .int .i64 j ∧ RdAt wr b s L (p + 8 * j) ∧ wr.heap[w.heap.size]? = some (.cells (readRow (bitsOf L) p n j).toArray 5 (0, 0)) ∧ Only b w wr) (fun i _ => n - (intOf i).toNat)
  case atStart => exact ⟨0, Nat.zero_le _, rfl, HR2.out, HG2.out, Only.of_below HB2.out⟩
  case round =>
    obtain ⟨j, hj, rfl, hr, hrow, ho⟩ := hrel
    have HRR := Lib.hid hr
    have HROW := Lib.hid hrow
    have HO := Lib.hid ho
    clear hr hrow ho
    by_cases hlt2 : j < n
    · have HC := Lib.hid (octet_ok wr b L (p + 8 * j) HRR.out hL (by omega))
      go_wp2_with fail
      refine HC.out.mono ?_
      rintro e w3 ⟨rfl, hr3, ho3⟩
      have hrow3 : w3.heap[w.heap.size]? = _ := (ho3.block w.heap.size (Array.getElem?_eq_some_iff.1 HROW.out).1 (by omega)).trans HROW.out
      obtain ⟨x, hx⟩ := readRow_get (bitsOf L) p n j j hlt2
      have hc3 : w3.cell? ⟨w.heap.size, j, none⟩ = some (.int .u8 x) := cell_of_list hrow3 hx
      have hf3 : w3.frozen? ⟨w.heap.size, j, none⟩ = false := frozen_of_row _ _ _ _ _ hrow3
      have hrow4 := heap_setCell_same w3 w.heap.size j _ _ (.int .u8 (bitsAt (bitsOf L) (p + 8 * j) 8 : Nat)) hrow3
      rw [List.setIfInBounds_toArray, readRow_set _ _ _ _ hlt2] at hrow4
      have hgl : w.heap.size ≠ b := by omega
      have hro3 : RdAt (w3.setCell ⟨w.heap.size, j, none⟩ (.int .u8 (bitsAt (bitsOf L) (p + 8 * j) 8 : Nat))) b s L (p + 8 * (j + 1)) := hr3.other _ _ _ (by omega) (fun g' o cap e hne => by have := HR.out.data_lt g' o cap e hne; omega)
      have ho4 : Only b w (w3.setCell ⟨w.heap.size, j, none⟩ (.int .u8 (bitsAt (bitsOf L) (p + 8 * j) 8 : Nat))) := by
        have h1 := HO.out.trans ho3
        refine ⟨h1.os, h1.tape, h1.output, by rw [World.size_setCell]; exact h1.size, fun k hk hkb => ?_⟩
        rw [heap_setCell_other _ _ _ _ (by show k ≠ w.heap.size; omega)]
        exact h1.block k hk hkb
      have HR3 := Lib.hid hro3
      have HROW3 := Lib.hid hrow4
      have HO3 := Lib.hid ho4
      clear hr3 ho3 hrow3 hx hrow4 hro3 ho4
      generalize bitsAt (bitsOf L) (p + 8 * j) 8 = y at *
      go_wp2_with fail
      go_roundw
      case rel => exact ⟨j + 1, by omega, by go_num, HR3.out, HROW3.out, HO3.out⟩
      case measure => simp [intOf]; omega
    · obtain rfl : j = n := by omega
      have hrow' := HROW.out
      rw [readRow_full] at hrow'
      have HROW' := Lib.hid hrow'
      clear hrow'
      go_wp2_with fail
      go_ret2
      exact ⟨rfl, HRR.out, HROW'.out, HO.out⟩
theorem roctets_neg (w : World) (b : Nat) (z : Int) (hz : z < 0) :
    Calls Try.prog 53 #[.pointer (some ⟨b, 0, none⟩), .int .i64 z] w fun e w' => e = .returned (.tuple #[.slice none 0 0, .int .i64 1]) ∧ w = w' := by
  go_enter Try.func53, Try.ntmps53
  go_wp2_with fail
  go_ret2
  exact ⟨rfl, rfl⟩
theorem roctets_short (w : World) (b : Nat) {s : Value} (L : List Nat) (p : Nat) (z : Int) (h : RdAt w b s L p) (hL : L.length ≤ 10000000000) (hz : 0 ≤ z) (hi : ((8 * L.length - p : Nat) : Int) / 8 < z) :
    Calls Try.prog 53 #[.pointer (some ⟨b, 0, none⟩), .int .i64 z] w fun e w' => e = .returned (.tuple #[.slice none 0 0, .int .i64 2]) ∧ Still w w' := by
  have hleft := left_ok w b L p h hL
  revert hleft hi
  have hle : 8 * L.length - p ≤ 80000000000 := by omega
  generalize 8 * L.length - p = lf at *
  intro hi hleft
  have HL := Lib.hid hleft
  clear hleft h
  go_enter Try.func53, Try.ntmps53
  go_wp2_with (go_at_call 50; refine HL.out.mono ?_; rintro e w1 ⟨rfl, hst⟩; have HS := Lib.hid hst; clear hst)
  go_ret2
  exact ⟨rfl, HS.out⟩

theorem build_reader (w : World) (a : Option Addr) (n c : Nat) : (Instr.build 83 #[(0, .slice a n c)]).run Try.prog w = .ok (.agg #[.slice a n c, .int .i64 0]) w := by kernel_rfl
/-- slices.Clone: an array of its own -/
theorem clone_at (w : World) (g o cap : Nat) (l : List Nat) (hl : l ≠ []) (hd : DataAt w g o l) (hlen : l.length ≤ 1000000000) :
    Calls Try.prog 48 #[.slice (some ⟨g, o, none⟩) l.length cap] w fun e w' => ∃ s, e = .returned s ∧ OwnAt w' s l ∧ Below w.heap.size w w' := by
  have hlp : 0 < l.length := by cases l <;> simp_all
  obtain ⟨i0, hi, hz0, hz1, hz2⟩ := info_parts info_u8
  have hnews : ∀ j u, (u8s l)[j]? = some u → ((w.alloc (.cells #[] 5)).cell? ((⟨g, o, none⟩ : Addr).add j) = some u) := by
    intro j u hj
    have hjl : j < l.length := by have := (List.getElem?_eq_some_iff.1 hj).1; simpa [u8s] using this
    rw [Addr.add_mid, (hd.below ((Below.refl _ _).alloc (Nat.le_refl _) _)).cell j hjl, ← hj]
    unfold u8s
    rw [List.getElem?_map, List.getElem?_eq_getElem hjl]
    simp [List.getD_eq_getElem?_getD, hjl]
  have HN := Lib.hid hnews
  have HD := Lib.hid hd
  have heq := fun w : World => Lib.run_eql_slice_nil (P := Try.prog) w 22 5 (some ⟨g, o, none⟩) l.length cap 0 0 Try.underlying22
  clear hnews hd hl
  go_enter Try.func48, Try.ntmps48
  go_wp2_with (at_builtin; refine wpList_append_grows _ rfl (.tmp 5) (.tmp 6) 22 rfl 5 i0 (.int .u8 0) 1 1 Try.underlying22 hi hz0 hz1 hz2 rfl (by decide) (some ⟨w.heap.size, 0, none⟩) 0 0 [] rfl (fun h => by cases h) rfl (fun _ _ j u h => by cases h) ⟨g, o, none⟩ l.length cap (u8s l) rfl (by simp [u8s]) HN.out (u8s_one l) (by omega) (by unfold maxLen; omega) (by omega) ?_; intro v' w2 hown hgr; have HO := Lib.hid hown; have HG := Lib.hid hgr; clear hown hgr)
  go_ret
  refine ⟨_, rfl, ?_, ?_⟩
  · obtain ⟨h1, h2⟩ := HO.out
    rcases h2 with ⟨_, h3⟩ | ⟨g', cap', cur, hv, _, hh, hle, hm, hsz, htake⟩
    · omega
    · have e : (0 + l.length) = l.length := by omega
      rw [e] at hv htake hle
      rw [List.nil_append, Nat.mul_one] at htake
      have hl0 : l ≠ [] := by rintro rfl; simp at hlp
      refine .inl ⟨hl0, g', 0, cap', cur, (0, 0), hv, hh, ⟨fun i hi => ?_, HD.out.byte⟩⟩
      rw [cell_of_row w2 g' _ _ _ _ hh, Nat.zero_add]
      have h4 : (u8s l)[i]? = some (.int .u8 (l.getD i 0 : Nat)) := by
        unfold u8s
        rw [List.getElem?_map, List.getElem?_eq_getElem hi]
        simp [List.getD_eq_getElem?_getD, hi]
      rw [← htake, List.getElem?_take, if_pos hi] at h4
      rw [← h4, Array.getElem?_toList]
  · exact ((Below.refl _ _).alloc (Nat.le_refl _) _).grown HG.out (by simp) (fun k h => by cases h)
theorem clone_empty (w : World) (a : Option Addr) (cap : Nat) :
    Calls Try.prog 48 #[.slice a 0 cap] w fun e w' => ∃ s, e = .returned s ∧ OwnAt w' s [] ∧ Below w.heap.size w w' := by
  have heq := fun (a : Option Addr) (w : World) => Lib.run_eql_slice_nil (P := Try.prog) w 22 5 a 0 cap 0 0 Try.underlying22
  cases a with
  | none =>
    go_enter Try.func48, Try.ntmps48
    go_wp2_with fail
    go_ret
    exact ⟨_, rfl, .inr ⟨rfl, _, _, rfl⟩, Below.refl _ _⟩
  | some x =>
    go_enter Try.func48, Try.ntmps48
    go_wp2_with fail
    go_ret
    exact ⟨_, rfl, .inr ⟨rfl, _, _, rfl⟩, (Below.refl _ _).alloc (Nat.le_refl _) _⟩
theorem new_ok (w : World) (s0 : Value) (l : List Nat) (h : SlAt w s0 l) (hlen : l.length ≤ 1000000000) :
    Calls Try.prog 24 #[s0] w fun e w' => ∃ s b, e = .returned (.pointer (some ⟨b, 0, none⟩)) ∧ w.heap.size ≤ b ∧ RdAt w' b s l 0 ∧ Below w.heap.size w w' := by
  have hcl : Calls Try.prog 48 #[s0] w fun e w' => ∃ s, e = .returned s ∧ OwnAt w' s l ∧ Below w.heap.size w w' := by
    by_cases hl : l = []
    · subst hl
      have e : ∃ a cap, s0 = .slice a 0 cap := by
        rcases h with ⟨g, o, cap, rfl, hd⟩ | ⟨_, a, cap, rfl⟩
        · exact ⟨_, _, rfl⟩
        · exact ⟨_, _, rfl⟩
      obtain ⟨a, cap, rfl⟩ := e
      exact clone_empty w a cap
    · rcases h with ⟨g, o, cap, rfl, hd⟩ | ⟨h0, _⟩
      · exact clone_at w g o cap l hl hd hlen
      · exact absurd h0 hl
  have HC := Lib.hid hcl
  clear hcl h
  go_enter Try.func24, Try.ntmps24
  go_wp2_with fail
  refine HC.out.mono ?_
  rintro e w1 ⟨s, rfl, how, hbl⟩
  have hsl : ∃ a n c, s = .slice a n c := by
    rcases how with ⟨_, g, o, cap, cs, fr, e, _, _⟩ | ⟨_, a, cap, e⟩
    · exact ⟨_, _, _, e⟩
    · exact ⟨_, _, _, e⟩
  obtain ⟨a, n, c, rfl⟩ := hsl
  have HO := Lib.hid how
  have HB := Lib.hid hbl
  have hs := hbl.size
  clear how hbl
  go_wp2_with fail
  go_ret
  refine ⟨.slice a n c, w1.heap.size, rfl, hs, ⟨heap_alloc_new _ _, HO.out.below ((Below.refl _ _).alloc (Nat.le_refl _) _), Nat.zero_le _⟩, HB.out.alloc hs _⟩
end Go.Proofs.Ytbbbgoigacledaa
