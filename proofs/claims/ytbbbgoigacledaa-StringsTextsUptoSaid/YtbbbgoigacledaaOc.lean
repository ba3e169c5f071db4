/-
  The walks of package octets.
-/
import Derived.Test.YtbbbgoigacledaaSl
import Derived.Test.YtbbbgoigacledaaNum
import Derived.Lib.Walk
import Derived.Lib.Small
import Derived.Lib.Strings
import Derived.Lib.Slices
import Derived.ArgAppend
import Derived.Deep.AppendLies
namespace Go.Proofs.Ytbbbgoigacledaa
open Go.RowKit
set_option linter.unusedVariables false
set_option linter.unusedSimpArgs false
set_option maxRecDepth 100000

theorem tab_at (b : Int) (h : b.toNat < Lib.len8tab.size) : ((Lib.len8tab[b.toNat]'h).toNat : Int) = Lib.len8 b := by
  unfold Lib.len8
  rw [getElem?_pos Lib.len8tab b.toNat h]
  rfl
theorem len_arm (x : Int) (h0 : 0 ≤ x) (h1 : x ≤ 18446744073709551615) (b : Int) (h : b.toNat < Lib.len8tab.size) (k : Nat) (hk : 2 ^ k ≤ x ∨ k = 0) (hb : b = x / 2 ^ k) (h2 : b < 256) (hk2 : k ≤ 56) :
    wrap64 (k + wrap64 (Lib.len8tab[b.toNat]'h).toNat) = wid x.toNat := by
  have hp : (0 : Int) < 2 ^ k := Int.pow_pos (by decide)
  have hb0 : 0 ≤ b := by rw [hb]; exact Int.ediv_nonneg h0 (Int.le_of_lt hp)
  rw [tab_at b h]
  clear h
  have hb1 : b ≤ 255 := by omega
  rw [Lib.len8_of b hb0 hb1]
  have e : b.toNat = x.toNat / 2 ^ k := by
    have : ((x.toNat / 2 ^ k : Nat) : Int) = x / 2 ^ k := by rw [Int.natCast_ediv, Int.natCast_pow, Int.toNat_of_nonneg h0]; rfl
    omega
  have l := Lib.bitLen_le8' b hb0 hb1
  rw [e] at l ⊢
  have key : k + Lib.bitLen (x.toNat / 2 ^ k) = wid x.toNat := by
    unfold wid
    rcases hk with hk | hk
    · have g1 : 2 ^ k ≤ x.toNat := by
        have : ((2 ^ k : Nat) : Int) ≤ x := (by rw [Int.natCast_pow]; exact hk)
        omega
      have g2 : x.toNat < 2 ^ 64 := by omega
      exact (Lib.bitLen_shift k x.toNat g1 g2).symm
    · subst hk
      rw [Nat.pow_zero, Nat.div_one, Nat.zero_add]
  rw [← key]
  clear key e
  generalize Lib.bitLen (x.toNat / 2 ^ k) = B at *
  unfold wrap64
  omega
theorem wrap_zero (z : Int) : wrap64 (wrap64 z) = wrap64 ((0 : Nat) + wrap64 z) := by simp
set_option maxHeartbeats 4000000 in
set_option maxRecDepth 100000 in
theorem len64_ok (x : Int) (w : World) (h0 : 0 ≤ x) (h1 : x ≤ 18446744073709551615) :
    Calls Try.prog 66 #[.int .u64 x] w fun e w' => e = .returned (.int .i64 (wid x.toNat)) ∧ w = w' := by
  go_enter Try.func66, Try.ntmps66
  have hsz := Lib.len8tab_size
  go_wp2
  all_goals
    go_ret
    refine ⟨rint ?_, rfl⟩
    first
    | exact len_arm x h0 h1 _ _ 56 (by omega) (by omega) (by omega) (by omega)
    | exact len_arm x h0 h1 _ _ 48 (by omega) (by omega) (by omega) (by omega)
    | exact len_arm x h0 h1 _ _ 40 (by omega) (by omega) (by omega) (by omega)
    | exact len_arm x h0 h1 _ _ 32 (by omega) (by omega) (by omega) (by omega)
    | exact len_arm x h0 h1 _ _ 24 (by omega) (by omega) (by omega) (by omega)
    | exact len_arm x h0 h1 _ _ 16 (by omega) (by omega) (by omega) (by omega)
    | exact len_arm x h0 h1 _ _ 8 (by omega) (by omega) (by omega) (by omega)
    | (rw [wrap_zero]; exact len_arm x h0 h1 _ _ 0 (.inr rfl) (by omega) (by omega) (by omega))
theorem width_ok (v : Nat) (w : World) (h : v < 2 ^ 64) :
    Calls Try.prog 45 #[.int .u64 v] w fun e w' => e = .returned (.int .i64 (wid v)) ∧ w = w' := by
  go_enter Try.func45, Try.ntmps45
  go_wp2_with (go_at_call 66; refine (len64_ok _ _ (by omega) (by omega)).mono ?_; rintro e w' ⟨rfl, rfl⟩)
  go_ret
  exact ⟨rfl, rfl⟩
theorem count_ok (v : Nat) (w : World) (h : v < 2 ^ 64) :
    Calls Try.prog 102 #[.int .u64 v] w fun e w' => e = .returned (.int .i64 (cnt v)) ∧ w = w' := by
  have hw := wid_le64 v h
  unfold cnt
  go_enter Try.func102, Try.ntmps102
  go_wp2_with (go_at_call 45; refine (width_ok _ _ h).mono ?_; rintro e w' ⟨rfl, rfl⟩)
  generalize wid v = x at *
  go_ret
  exact ⟨rint (by omega), rfl⟩
/-- a slice of one's own -/
def New (w w' : World) (v : Value) (l : List Nat) : Prop := ∃ g cap, v = .slice (some ⟨g, 0, none⟩) l.length cap ∧ w.heap.size ≤ g ∧ l.length ≤ cap ∧ DataAt w' g 0 l
theorem New.sl {w w' : World} {v : Value} {l : List Nat} (h : New w w' v l) : SlAt w' v l := by
  obtain ⟨g, cap, rfl, _, _, hd⟩ := h
  exact .inl ⟨g, 0, cap, rfl, hd⟩
theorem New.below {w w' w2 : World} {v : Value} {l : List Nat} (h : New w w' v l) (hb : Below w'.heap.size w' w2) : New w w2 v l := by
  obtain ⟨g, cap, rfl, hg, hc, hd⟩ := h
  exact ⟨g, cap, rfl, hg, hc, hd.below hb⟩
theorem data_cells {w : World} {g o : Nat} {l : List Nat} (h : DataAt w g o l) : ∀ j u, (u8s l)[j]? = some u → w.cell? ((⟨g, o, none⟩ : Addr).add j) = some u := by
  intro j u hj
  rw [Addr.add_mid]
  obtain ⟨hlt, hu⟩ := List.getElem?_eq_some_iff.1 hj
  have hl : j < l.length := by simpa [u8s] using hlt
  rw [h.cell j hl, ← hu]
  simp [u8s, List.getD_eq_getElem?_getD, hl]
theorem new_of_own {w w' : World} {v : Value} {l : List Nat} (h : w'.ownsRow w.heap.size 5 1 v l.length (u8s l)) (hl : 0 < l.length) (hb : ∀ j, l.getD j 0 < 256) : New w w' v l := by
  have h2 := h.2
  rcases h2 with ⟨_, h0⟩ | ⟨g, cap, cur, hv, hg, _, hcap, _⟩
  · omega
  subst hv
  refine ⟨g, cap, rfl, hg, hcap, fun i hi => ?_, hb⟩
  rw [Nat.zero_add, h.cellAt i (by omega)]
  unfold u8s
  rw [List.getElem?_map, List.getElem?_eq_getElem hi, List.getD_eq_getElem?_getD, List.getElem?_eq_getElem hi]
  rfl
theorem add_ok (w : World) (g o cap : Nat) (l : List Nat) (hd : DataAt w g o l) (h0 : 0 < l.length) (hl : l.length ≤ 1000000) :
    Calls Try.prog 107 #[.slice none 0 0, .slice (some ⟨g, o, none⟩) l.length cap] w fun e w' => ∃ v, e = .returned v ∧ New w w' v l ∧ Below w.heap.size w w' := by
  obtain ⟨i0, hi, hz0, hz1, hz2⟩ := info_parts info_u8
  have hown0 := World.ownsRow_nil w w.heap.size 5 1
  have HD := Lib.hid hd
  clear hd
  go_enter Try.func107, Try.ntmps107
  go_wp2_with (at_builtin; refine wpList_append_own _ rfl (.tmp 5) (.tmp 6) 22 rfl w.heap.size 5 i0 (.int .u8 0) 1 1 Try.underlying22 hi hz0 hz1 hz2 rfl (by decide) _ 0 [] rfl hown0 ⟨g, o, none⟩ l.length cap (u8s l) rfl (by simp [u8s]) (data_cells HD.out) (u8s_one l) (by unfold maxLen; omega) (by omega) (Nat.le_refl _) ?_; intro v' w4 hown4 hgr4 _)
  go_ret
  rw [Nat.zero_add, List.nil_append] at hown4
  exact ⟨_, rfl, new_of_own hown4 h0 HD.out.byte, (Below.refl _ _).grown hgr4 (Nat.le_refl _) (fun k hk => by cases hk)⟩
theorem eight_cells (v : Nat) (h : v < 2 ^ 64) : (u8s (low v 8)).toArray = #[Value.int IntKind.u8 ((v : Int) / 72057594037927936), Value.int IntKind.u8 ((v : Int) / 281474976710656 % 256),
          Value.int IntKind.u8 ((v : Int) / 1099511627776 % 256), Value.int IntKind.u8 ((v : Int) / 4294967296 % 256),
          Value.int IntKind.u8 ((v : Int) / 16777216 % 256), Value.int IntKind.u8 ((v : Int) / 65536 % 256),
          Value.int IntKind.u8 ((v : Int) / 256 % 256), Value.int IntKind.u8 ((v : Int) % 256)] := by
  have e : (v : Int) / 72057594037927936 = ((v / 72057594037927936 % 256 : Nat) : Int) := by omega
  rw [e]
  simp [u8s, low, List.range_succ]
theorem low_drop (v k : Nat) (h8 : k ≤ 8) (i : Nat) (hi : i < k) : (low v 8).getD (8 - k + i) 0 = (low v k).getD i 0 := by
  rw [low_getD _ _ _ (by omega), low_getD _ _ _ hi]
  congr 3
  omega
set_option maxHeartbeats 1000000 in
theorem lowest_ok (v k : Nat) (w : World) (h : v < 2 ^ 64) (h1 : 1 ≤ k) (h8 : k ≤ 8) :
    Calls Try.prog 105 #[.int .u64 v, .int .i64 k] w fun e w' => ∃ s, e = .returned s ∧ New w w' s (low v k) ∧ Below w.heap.size w w' := by
  have hc := eight_cells v h
  have hd : DataAt (w.alloc (.cells (u8s (low v 8)).toArray 5)) w.heap.size 0 (low v 8) := data_of_row _ _ _ (heap_alloc_new _ _) (low_lt v 8)
  have HB := Lib.hid ((Below.refl w.heap.size w).alloc (Nat.le_refl _) (.cells (u8s (low v 8)).toArray 5))
  have c1 := add_ok _ _ 0 8 (low v 8) hd (by rw [low_length]; omega) (by rw [low_length]; omega)
  rw [low_length] at c1
  rw [hc] at c1 HB
  clear hc hd
  go_enter Try.func105, Try.ntmps105
  go_wp2_with fail
  refine c1.mono ?_
  rintro e w1 ⟨s, rfl, ⟨g, cap, rfl, hg, hcap, hd⟩, hb⟩
  have HB1 := Lib.hid (HB.out.trans (hb.mono (by simp)))
  have HD := Lib.hid hd
  clear c1 hd hb HB
  rw [low_length] at hcap ⊢
  have hd2 : DataAt w1 g (8 - k) (low v k) := ⟨fun i hi => by
    rw [low_length] at hi
    have := HD.out.cell (8 - k + i) (by rw [low_length]; omega)
    rw [Nat.zero_add, low_drop v k h8 i hi] at this
    exact this, low_lt v k⟩
  have c2 := add_ok w1 g (8 - k) (cap - (8 - k)) (low v k) hd2 (by rw [low_length]; omega) (by rw [low_length]; omega)
  rw [show (low v k).length = 8 - (8 - k) by rw [low_length]; omega] at c2
  have C2 := Lib.hid c2
  clear c2 hd2
  go_wp2_with fail
  refine C2.out.mono ?_
  rintro e w2 ⟨s, rfl, ⟨g2, cap2, rfl, hg2, hcap2, hd2⟩, hb2⟩
  have hsz := HB1.out.size
  go_wp2_with fail
  go_ret
  exact ⟨_, rfl, ⟨g2, cap2, rfl, by omega, hcap2, hd2⟩, HB1.out.trans (hb2.mono hsz)⟩
end Go.Proofs.Ytbbbgoigacledaa
