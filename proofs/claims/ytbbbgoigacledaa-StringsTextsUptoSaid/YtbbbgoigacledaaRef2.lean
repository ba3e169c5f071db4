/-
  The reference's Octets and Bytes.
-/
import Derived.Test.YtbbbgoigacledaaRef
import Derived.Deep.AppendLies
namespace Go.Proofs.Ytbbbgoigacledaa
open Go.RowKit
set_option linter.unusedVariables false
set_option linter.unusedSimpArgs false
set_option maxRecDepth 100000

def RelO (w : World) (B : List Bool) (l : List Nat) (bv i : Value) (wr : World) : Prop := ∃ j : Nat, j ≤ l.length ∧ i = .int .i64 j ∧ Buf wr w.heap.size bv (bcells (B ++ bitsOf (l.take j))) ∧ Below w.heap.size w wr
theorem rocts_at (w : World) (B : List Bool) (g o cap : Nat) (l : List Nat) (hd : DataAt w g o l) (hB : B.length ≤ 100000000) (hl : l.length ≤ 10000000) :
    Calls Try.prog 92 #[.string (bchars B), .slice (some ⟨g, o, none⟩) l.length cap] w fun e w' => e = .returned (.string (bchars (B ++ bitsOf l))) ∧ Below w.heap.size w w' := by
  have HD := Lib.hid hd
  clear hd
  go_enter Try.func92, Try.ntmps92
  go_wp2_with (refine wpList_conv rfl (.tmp 8) rfl B (by omega) (by kernel_rfl) ?_; intro bv w1 hbuf hbel; have HBUF := Lib.hid hbuf; have HBEL := Lib.hid hbel; clear hbuf hbel)
  go_loopw [5, 6] (fun bv i wr => RelO w B l bv i wr) (fun _ i _ => l.length - (intOf i).toNat)
  case atStart => exact ⟨0, Nat.zero_le _, rfl, by simpa [bitsOf] using HBUF.out, HBEL.out⟩
  case round =>
    obtain ⟨j, hj, rfl, hbuf, hbel⟩ := hrel
    have HBUF1 := Lib.hid hbuf
    have HBEL1 := Lib.hid hbel
    clear hbuf hbel
    by_cases hlt : j < l.length
    · have hb8 := HD.out.byte j
      obtain ⟨z, hz⟩ : ∃ z, l.getD j 0 = z := ⟨_, rfl⟩
      have hcz : ∀ w', Below w.heap.size w w' → w'.cell? ⟨g, o + j, none⟩ = some (.int .u8 z) := fun w' h => by rw [← hz]; exact (HD.out.below h).cell j hlt
      have HCZ := Lib.hid hcz
      have HZ := Lib.hid hz
      rw [hz] at hb8
      clear hcz hz
      go_wp2_with fail
      obtain ⟨wo, rfl⟩ : ∃ wo : World, wo = wr := ⟨_, rfl⟩
      go_loopw [5, 7] (fun bv i wr => RelP w (B ++ bitsOf (l.take j)) z 8 bv i wr) (fun _ i _ => (intOf i + 1).toNat)
      case atStart => exact ⟨8, Nat.le_refl _, rfl, by simpa using HBUF1.out, HBEL1.out⟩
      case round =>
        obtain ⟨m, hm, rfl, hbuf, hbel⟩ := hrel
        have HBUF := Lib.hid hbuf
        have HBEL := Lib.hid hbel
        clear hbuf hbel
        by_cases hm0 : 0 < m
        · have HE := Lib.hid (chr_u8 z (m - 1) hb8)
          have hlen : (bcells (B ++ bitsOf (l.take j) ++ (nb z 8).take (8 - m))).length + 1 ≤ 1000000000 := by rw [bcells_length, List.length_append, List.length_append, List.length_take, nb_length, bitsOf_length, List.length_take]; omega
          have hc1 := HCZ.out _ HBEL.out
          go_wp2_with (at_builtin; refine wpList_push (w0 := w) rfl (.tmp 20) (.tmp 30) rfl _ _ rfl (HBUF.out.alloc _) (HBEL.out.alloc HBEL.out.size _) ⟨wr.heap.size, 0, none⟩ (.int .u8 (bch (z.testBit (m - 1)) : Nat)) rfl (new_one wr HE.out) rfl hlen ?_; intro bv' w2 hb2 hl2; have HB2 := Lib.hid hb2; have HL2 := Lib.hid hl2; clear hb2 hl2)
          go_roundw
          case rel => exact relP_next hm hm0 HB2.out HL2.out
          case measure => simp [intOf]; omega
        · obtain rfl : m = 0 := by omega
          have hb3 := HBUF.out
          have e8 : (nb z 8).take (8 - 0) = nb z 8 := List.take_of_length_le (by rw [nb_length]; omega)
          have e9 : bitsOf (l.take j) ++ nb z 8 = bitsOf (l.take (j + 1)) := by rw [← HZ.out, ← bitsOf_take_succ l j hlt]
          rw [e8, List.append_assoc, e9] at hb3
          clear e8 e9
          have HB3 := Lib.hid hb3
          clear hb3
          go_wp2_with fail
          go_roundw
          case rel => exact ⟨j + 1, by omega, by go_num, HB3.out, HBEL.out⟩
          case measure => simp [intOf]; omega
    · obtain rfl : j = l.length := by omega
      have hback := conv_back wr _ _ _ HBUF1.out
      rw [List.take_of_length_le (Nat.le_refl _)] at hback
      go_wp2_with fail
      go_ret
      exact ⟨rfl, HBEL1.out⟩
theorem rocts_none (w : World) (B : List Bool) (a : Option Addr) (cap : Nat) (hB : B.length ≤ 100000000) :
    Calls Try.prog 92 #[.string (bchars B), .slice a 0 cap] w fun e w' => e = .returned (.string (bchars B)) ∧ Below w.heap.size w w' := by
  go_enter Try.func92, Try.ntmps92
  go_wp2_with (refine wpList_conv rfl (.tmp 8) rfl B (by omega) (by kernel_rfl) ?_; intro bv w1 hbuf hbel; have HBUF := Lib.hid hbuf; have HBEL := Lib.hid hbel; clear hbuf hbel)
  have hback := conv_back w1 _ _ _ HBUF.out
  refine wp_loop_once ?_
  go_wp2_with fail
  go_ret
  exact ⟨rfl, HBEL.out⟩
theorem rocts_sl (w : World) (B : List Bool) (s : Value) (l : List Nat) (hs : SlAt w s l) (hB : B.length ≤ 100000000) (hl : l.length ≤ 10000000) :
    Calls Try.prog 92 #[.string (bchars B), s] w fun e w' => e = .returned (.string (bchars (B ++ bitsOf l))) ∧ Below w.heap.size w w' := by
  rcases hs with ⟨g, o, cap, rfl, hd⟩ | ⟨rfl, a, cap, rfl⟩
  · exact rocts_at w B g o cap l hd hB hl
  · have := rocts_none w B a cap hB
    simpa [bitsOf] using this

/-- the octets that i bits of B are, the last one begun -/
def part (B : List Bool) (i : Nat) : List Nat := (List.range ((i + 7) / 8)).map fun j => num ((B.drop (8 * j)).take (min 8 (i - 8 * j)))
theorem part_length (B : List Bool) (i : Nat) : (part B i).length = (i + 7) / 8 := by simp [part]
theorem part_new (B : List Bool) (i : Nat) (h : i % 8 = 0) : part B i ++ [0] = (List.range (i / 8 + 1)).map fun j => num ((B.drop (8 * j)).take (min 8 (i - 8 * j))) := by
  rw [List.range_succ, List.map_append]
  unfold part
  rw [show (i + 7) / 8 = i / 8 by omega]
  congr 1
  simp [show i - 8 * (i / 8) = 0 by omega, num]
theorem part_set (B : List Bool) (i : Nat) (h : i < B.length) : ((List.range (i / 8 + 1)).map fun j => num ((B.drop (8 * j)).take (min 8 (i - 8 * j)))).set (i / 8) (2 * num ((B.drop (8 * (i / 8))).take (i % 8)) + (B.getD i false).toNat) = part B (i + 1) := by
  apply List.ext_getElem
  · simp [part]; omega
  · intro k h1 h2
    simp at h1
    rw [List.getElem_set]
    simp only [part, List.getElem_map, List.getElem_range]
    by_cases hk : i / 8 = k
    · rw [if_pos hk]
      subst hk
      rw [show min 8 (i + 1 - 8 * (i / 8)) = i % 8 + 1 by omega, List.take_succ_eq_append_getElem (by rw [List.length_drop]; omega), num_snoc, List.getElem_drop]
      congr 2
      rw [List.getD_eq_getElem?_getD, List.getElem?_eq_getElem h]
      simp only [Option.getD_some]
      congr 1
      omega
    · rw [if_neg hk]
      congr 2
      omega
theorem part_full (B : List Bool) (h : B.length % 8 = 0) : part B B.length = octs B := by
  unfold part octs
  apply List.map_congr_left
  intro j hj
  simp at hj
  unfold oct
  congr 1
  apply List.ext_getElem
  · simp; omega
  · intro k h1 h2
    simp at h1 h2
    simp [List.getD_eq_getElem?_getD, show 8 * j + k < B.length by omega]
theorem bchars_data (B : List Bool) : (bchars B).data.toList = B.map fun b => UInt8.ofNat (bch b) := rfl
theorem bchars_at (B : List Bool) (i : Nat) (h : i < B.length) (h' : i < (bchars B).size) : ((bchars B)[i]'h').toNat = bch (B.getD i false) := by
  have e : (bchars B)[i]'h' = UInt8.ofNat (bch (B.getD i false)) := by
    have h1 : (bchars B).data.toList[i]? = some (UInt8.ofNat (bch (B.getD i false))) := by
      rw [bchars_data, List.getElem?_map, List.getElem?_eq_getElem h, List.getD_eq_getElem?_getD, List.getElem?_eq_getElem h]
      rfl
    have h2 : (bchars B).data.toList[i]? = some ((bchars B)[i]'h') := List.getElem?_eq_getElem (by rw [bchars_data, List.length_map]; exact h)
    exact Option.some.inj (h2.symm.trans h1)
  rw [e]
  generalize B.getD i false = t
  cases t <;> rfl
theorem info_u8' : (Try.prog.info? 5).map (·.size) = some 1 := by kernel_rfl
/-- a row of octets of the call's own -/
def RelB (w : World) (B : List Bool) (ov i : Value) (wr : World) : Prop := ∃ k : Nat, k ≤ B.length ∧ i = .int .i64 k ∧ wr.ownsRow w.heap.size 5 1 ov (part B k).length (u8s (part B k)) ∧ Below w.heap.size w wr
def partx (B : List Bool) (i : Nat) : List Nat := (List.range (i / 8 + 1)).map fun j => num ((B.drop (8 * j)).take (min 8 (i - 8 * j)))
theorem partx_part (B : List Bool) (i : Nat) (h : i % 8 ≠ 0) : part B i = partx B i := by
  unfold part partx
  rw [show (i + 7) / 8 = i / 8 + 1 by omega]
theorem partx_at (B : List Bool) (i : Nat) : (partx B i)[i / 8]? = some (num ((B.drop (8 * (i / 8))).take (i % 8))) := by
  unfold partx
  rw [List.getElem?_map, List.getElem?_range (by omega)]
  simp only [Option.map_some]
  rw [show min 8 (i - 8 * (i / 8)) = i % 8 by omega]
theorem u8s_append (a b : List Nat) : u8s (a ++ b) = u8s a ++ u8s b := by simp [u8s]
theorem u8s_set (a : List Nat) (j x : Nat) : u8s (a.set j x) = (u8s a).set j (.int .u8 (x : Int)) := by simp [u8s, List.map_set]
theorem u8s_length (a : List Nat) : (u8s a).length = a.length := by simp [u8s]
/-- the row in the middle of a round -/
def MidB (w : World) (B : List Bool) (k : Nat) (v : Value) (wr : World) : Prop := ∃ g cap, v = .slice (some ⟨g, 0, none⟩) (k / 8 + 1) cap ∧ wr.ownsRow w.heap.size 5 1 v (k / 8 + 1) (u8s (partx B k)) ∧ Below w.heap.size w wr
theorem midB_old {w wr : World} {B : List Bool} {k : Nat} {v : Value} (h8 : k % 8 ≠ 0) (h : wr.ownsRow w.heap.size 5 1 v (part B k).length (u8s (part B k))) (hb : Below w.heap.size w wr) : MidB w B k v wr := by
  rw [part_length, show (k + 7) / 8 = k / 8 + 1 by omega, partx_part B k h8] at h
  obtain ⟨g, cap, hv, _⟩ := h.form (by omega)
  exact ⟨g, cap, hv, h, hb⟩
theorem midB_new {w wr w4 : World} {B : List Bool} {k : Nat} {v v' : Value} {ob : Obj} (h8 : k % 8 = 0) (hold : wr.ownsRow w.heap.size 5 1 v (part B k).length (u8s (part B k))) (hb : Below w.heap.size w wr)
    (h : w4.ownsRow w.heap.size 5 1 v' ((part B k).length + 1) (u8s (part B k) ++ [.int .u8 0])) (hgr : (wr.alloc ob).grownBy w4 v.ownBlock) : MidB w B k v' w4 := by
  have h2 := hold.alloc ob
  have hb4 : Below w.heap.size w w4 := (hb.alloc hb.size ob).grown hgr (by have := hb.size; simp; omega) (fun k hk => (h2.lt k hk).1)
  have e : u8s (part B k) ++ [.int .u8 0] = u8s (partx B k) := by
    show u8s (part B k) ++ u8s [0] = _
    rw [← u8s_append, part_new B k h8]
    rfl
  rw [e, part_length, show (k + 7) / 8 + 1 = k / 8 + 1 by omega] at h
  obtain ⟨g, cap, hv, _⟩ := h.form (by omega)
  exact ⟨g, cap, hv, h, hb4⟩
theorem midB_cell {w wr : World} {B : List Bool} {k g cap : Nat} (h : wr.ownsRow w.heap.size 5 1 (.slice (some ⟨g, 0, none⟩) (k / 8 + 1) cap) (k / 8 + 1) (u8s (partx B k))) : wr.cell? ⟨g, k / 8, none⟩ = some (.int .u8 (num ((B.drop (8 * (k / 8))).take (k % 8)) : Nat)) := by
  rw [h.cellAt (k / 8) (by omega)]
  unfold u8s
  rw [List.getElem?_map, partx_at]
  rfl
theorem midB_next {w wr : World} {B : List Bool} {k g cap z : Nat} {t : Bool} (hk : k < B.length) (h : wr.ownsRow w.heap.size 5 1 (.slice (some ⟨g, 0, none⟩) (k / 8 + 1) cap) (k / 8 + 1) (u8s (partx B k))) (hb : Below w.heap.size w wr) (hg : w.heap.size ≤ g) (i : Value) (hi : i = .int .i64 ((k : Int) + 1))
    (y : Int) (hz : num ((B.drop (8 * (k / 8))).take (k % 8)) = z) (ht : B.getD k false = t) (hy : y = 2 * (z : Int) + (t.toNat : Nat)) : RelB w B (.slice (some ⟨g, 0, none⟩) (k / 8 + 1) cap) i (wr.setCell ⟨g, k / 8, none⟩ (.int .u8 y)).drew := by
  obtain rfl : y = ((2 * z + t.toNat : Nat) : Int) := by rw [hy]; simp
  subst hz ht
  refine ⟨k + 1, hk, by rw [hi]; rfl, ?_, (hb.setCell (by show w.heap.size ≤ g; exact hg) _).drew⟩
  have h1 := (h.stored (k / 8) (.int .u8 ((2 * num ((B.drop (8 * (k / 8))).take (k % 8)) + (B.getD k false).toNat : Nat) : Int))).1
  rw [← u8s_set] at h1
  unfold partx at h1
  rw [part_set B k hk] at h1
  rw [part_length, show (k + 1 + 7) / 8 = k / 8 + 1 by omega]
  exact h1.drew
theorem midB_at {w : World} {wr : World} {B : List Bool} {k : Nat} {v : Value} (h : MidB w B k v wr) : ∃ g cap, v = .slice (some ⟨g, 0, none⟩) (k / 8 + 1) cap ∧ w.heap.size ≤ g ∧ wr.ownsRow w.heap.size 5 1 (.slice (some ⟨g, 0, none⟩) (k / 8 + 1) cap) (k / 8 + 1) (u8s (partx B k)) ∧ Below w.heap.size w wr := by
  obtain ⟨g, cap, hv, hown, hbl⟩ := h
  subst hv
  obtain ⟨g', cap', h1, h2, _⟩ := hown.form (by omega)
  simp only [Value.slice.injEq, Option.some.injEq, Addr.mk.injEq, and_true, true_and] at h1
  exact ⟨g, cap, rfl, by rw [h1.1]; exact h2, hown, hbl⟩
theorem mid_num (B : List Bool) (k : Nat) : num ((B.drop (8 * (k / 8))).take (k % 8)) < 128 := by
  refine Nat.lt_of_lt_of_le (num_lt _) (Nat.le_trans (Nat.pow_le_pow_right (by decide) (?_ : _ ≤ 7)) (by decide))
  rw [List.length_take]
  omega
theorem own_data {w : World} {base : Nat} {v : Value} {l : List Nat} (h : w.ownsRow base 5 1 v l.length (u8s l)) (hl : 0 < l.length) (hb : ∀ j, l.getD j 0 < 256) : ∃ g cap, v = .slice (some ⟨g, 0, none⟩) l.length cap ∧ DataAt w g 0 l := by
  obtain ⟨g, cap, hv, _, _⟩ := h.form hl
  subst hv
  refine ⟨g, cap, rfl, fun i hi => ?_, hb⟩
  rw [Nat.zero_add, h.cellAt i (by omega)]
  unfold u8s
  rw [List.getElem?_map, List.getElem?_eq_getElem hi, List.getD_eq_getElem?_getD, List.getElem?_eq_getElem hi]
  rfl
theorem octs_lt (B : List Bool) (j : Nat) : (octs B).getD j 0 < 256 := by
  unfold octs
  rw [List.getD_eq_getElem?_getD, List.getElem?_map]
  cases h : (List.range ((B.length + 7) / 8))[j]? with
  | none => simp
  | some j => simpa using oct_lt B j
theorem rbytes_ok (w : World) (B0 : List Bool) (hB0 : B0.length ≤ 100000000) (hne : B0 ≠ []) :
    Calls Try.prog 17 #[.string (bchars B0)] w fun e w' => ∃ cap g, e = .returned (.slice (some ⟨g, 0, none⟩) (octs B0).length cap) ∧ DataAt w' g 0 (octs B0) ∧ Below w.heap.size w w' := by
  obtain ⟨i0, hi, hz0, hz1, hz2⟩ := info_parts info_u8
  have hpl := padded_length B0
  have hpos : 0 < B0.length := by cases B0 <;> simp_all
  go_enter Try.func17, Try.ntmps17
  go_wp2_with fail
  refine (ralignS_ok w B0 hB0).mono ?_
  rintro e w1 ⟨rfl, hbl⟩
  have hB : (padded B0).length ≤ 1000000000 := by omega
  have hB8 : (padded B0).length % 8 = 0 := by omega
  have hBp : 0 < (padded B0).length := by omega
  have hoc : octs (padded B0) = octs B0 := by
    unfold octs
    rw [hpl, show (8 * ((B0.length + 7) / 8) + 7) / 8 = (B0.length + 7) / 8 by omega]
    apply List.map_congr_left
    intro j _
    exact oct_congr (fun k _ => padded_getD _ _)
  revert hB hB8 hBp hoc
  generalize padded B0 = B
  intro hB hB8 hBp hoc
  have hsz := bchars_size B
  have hne0 : (((bchars B).size : Int) == 0) = false := by rw [hsz, beq_eq_false_iff_ne]; omega
  have HBL := Lib.hid hbl
  have HSZ := Lib.hid hsz
  have HOC := Lib.hid hoc
  clear hbl hsz hpl hoc
  go_wp2_with fail
  go_loopw [3, 4] (fun ov i wr => RelB w B ov i wr) (fun _ i _ => B.length - (intOf i).toNat)
  case atStart => exact ⟨0, Nat.zero_le _, rfl, World.ownsRow_nil _ _ _ _, HBL.out⟩
  case round =>
    obtain ⟨k, hk, rfl, hown, hbl⟩ := hrel
    have HOWN := Lib.hid hown
    have HBEL := Lib.hid hbl
    have hbs := hbl.size
    clear hown hbl
    have hlast : (bchars B).size ≤ k ∨ k < (bchars B).size := by omega
    by_cases hlt : k < B.length
    · have hlt2 : k < (bchars B).size := by rw [HSZ.out]; exact hlt
      clear hlast
      by_cases h8 : k % 8 = 0
      · have h8' : ((k : Int) % 8 == 0) = true := by rw [beq_iff_eq]; omega
        have H8 := Lib.hid h8
        clear h8
        go_wp2_with (at_builtin; refine wpList_append_own _ rfl (.tmp 20) (.tmp 21) 22 rfl w.heap.size 5 i0 (.int .u8 0) 1 1 Try.underlying22 hi hz0 hz1 hz2 rfl (by decide) _ (part B k).length (u8s (part B k)) rfl (HOWN.out.alloc _) ⟨wr.heap.size, 0, none⟩ 1 1 [.int .u8 0] rfl rfl (cell_one_new _ _ _) (by simp [Value.oneCell']) (by rw [part_length]; unfold maxLen; omega) (by rw [part_length]; omega) (by have := HBEL.out.size; simp; omega) ?_; intro v' w4 hown4 hgr4 _; have HMID := Lib.hid (midB_new H8.out HOWN.out HBEL.out hown4 hgr4); clear hown4 hgr4)
        obtain ⟨g, cap, hv, hg, hown, hbl⟩ := midB_at HMID.out
        subst hv
        have hcell := midB_cell hown
        have hfz : w4.frozen? ⟨g, k / 8, none⟩ = false := hown.frozenAt _
        have hch := bchars_at B k hlt hlt2
        obtain ⟨z, hz⟩ : ∃ z, num ((B.drop (8 * (k / 8))).take (k % 8)) = z := ⟨_, rfl⟩
        have hz128 : z < 128 := by rw [← hz]; exact mid_num B k
        rw [hz] at hcell
        obtain ⟨t, ht⟩ : ∃ t, B.getD k false = t := ⟨_, rfl⟩
        rw [ht] at hch
        have HOWN4 := Lib.hid hown
        have HBL4 := Lib.hid hbl
        have HZ := Lib.hid hz
        have HT := Lib.hid ht
        have HG := Lib.hid hg
        clear hown hbl hz ht HMID hg
        cases t
        all_goals
          simp only [bch, Bool.false_eq_true, if_true, if_false] at hch
          go_region
          all_goals go_wp2_with fail
          all_goals go_roundw
          case rel => exact midB_next hlt HOWN4.out HBL4.out HG.out _ rfl _ HZ.out HT.out (by simp; omega)
          case measure => simp [intOf]; omega
      · have h8' : ((k : Int) % 8 == 0) = false := by rw [beq_eq_false_iff_ne]; omega
        have HMID := Lib.hid (midB_old h8 HOWN.out HBEL.out)
        clear h8
        obtain ⟨g, cap, hv, hg, hown, hbl⟩ := midB_at HMID.out
        subst hv
        have hcell := midB_cell hown
        have hfz : wr.frozen? ⟨g, k / 8, none⟩ = false := hown.frozenAt _
        have hch := bchars_at B k hlt hlt2
        obtain ⟨z, hz⟩ : ∃ z, num ((B.drop (8 * (k / 8))).take (k % 8)) = z := ⟨_, rfl⟩
        have hz128 : z < 128 := by rw [← hz]; exact mid_num B k
        rw [hz] at hcell
        obtain ⟨t, ht⟩ : ∃ t, B.getD k false = t := ⟨_, rfl⟩
        rw [ht] at hch
        have HOWN4 := Lib.hid hown
        have HBL4 := Lib.hid hbl
        have HZ := Lib.hid hz
        have HT := Lib.hid ht
        have HG := Lib.hid hg
        clear hown hbl hz ht HMID hg
        cases t
        all_goals
          simp only [bch, Bool.false_eq_true, if_true, if_false] at hch
          go_wp2_with fail
          go_region
          all_goals go_wp2_with fail
          all_goals go_roundw
          case rel => exact midB_next hlt HOWN4.out HBL4.out HG.out _ rfl _ HZ.out HT.out (by simp; omega)
          case measure => simp [intOf]; omega
    · obtain rfl : k = B.length := by omega
      have hown := HOWN.out
      rw [part_full B hB8, HOC.out] at hown
      have hol : 0 < (octs B0).length := by simp [octs]; omega
      have hfin := own_data hown hol (octs_lt B0)
      have hend : (bchars B).size ≤ B.length := by rw [HSZ.out]; exact Nat.le_refl _
      clear hlast hown hol
      go_wp2_with fail
      go_ret
      obtain ⟨g, cap, hv, hd⟩ := hfin
      exact ⟨cap, g, by rw [hv]; rfl, hd, HBEL.out⟩
/-- nothing written: one octet, zero -/
theorem rbytes_none (w : World) :
    Calls Try.prog 17 #[.string (bchars [])] w fun e w' => ∃ cap g, e = .returned (.slice (some ⟨g, 0, none⟩) 1 cap) ∧ DataAt w' g 0 [0] ∧ Below w.heap.size w w' := by
  go_enter Try.func17, Try.ntmps17
  go_wp2_with fail
  refine (ralignS_ok w [] (by simp)).mono ?_
  rintro e w1 ⟨rfl, hbl⟩
  have HBL := Lib.hid hbl
  have hsz : (bchars (padded [])).size = 0 := rfl
  clear hbl
  go_wp2_with fail
  go_ret
  exact ⟨1, w1.heap.size, rfl, data_of_row _ _ [0] (heap_alloc_new _ _) (wb_lt []), HBL.out.alloc HBL.out.size _⟩
theorem rbytes_any (w : World) (B : List Bool) (hB : B.length ≤ 100000000) :
    Calls Try.prog 17 #[.string (bchars B)] w fun e w' => ∃ v, e = .returned v ∧ SlAt w' v (wb B) ∧ Below w.heap.size w w' := by
  by_cases h : B = []
  · subst h
    refine (rbytes_none w).mono ?_
    rintro e w' ⟨cap, g, rfl, hd, hb⟩
    exact ⟨_, rfl, .inl ⟨g, 0, cap, rfl, hd⟩, hb⟩
  · refine (rbytes_ok w B hB h).mono ?_
    rintro e w' ⟨cap, g, rfl, hd, hb⟩
    refine ⟨_, rfl, .inl ⟨g, 0, cap, ?_, ?_⟩, hb⟩
    · unfold wb
      rw [if_neg h]
    · unfold wb
      rw [if_neg h]
      exact hd
end Go.Proofs.Ytbbbgoigacledaa
