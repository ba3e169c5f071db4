/-
  Package spans: the ranges that are not empty.
-/
import Derived.Test.YtfnpjdglfaaegaaSpO
namespace Go.Proofs.Ytfnpjdglfaaegaa
open Go.RowKit Go.Shelf
set_option linter.unusedVariables false
set_option linter.unusedSimpArgs false
set_option maxRecDepth 100000

def neL (l : List Rg) : List Rg := l.filter fun r => decide (r.1 ≤ r.2)
theorem neL_append (a b : List Rg) : neL (a ++ b) = neL a ++ neL b := by simp [neL]
theorem neL_le (l : List Rg) : (neL l).length ≤ l.length := List.length_filter_le _ _
theorem take_succ_get {l : List Rg} {j : Nat} (h : j < l.length) : l.take (j + 1) = l.take j ++ [l[j]!] := by
  rw [List.take_add_one, getElem!_pos l j h, List.getElem?_eq_getElem h]
  rfl
theorem neL_take_yes {l : List Rg} {j : Nat} (h : j < l.length) (h2 : l[j]!.1 ≤ l[j]!.2) : neL (l.take (j + 1)) = neL (l.take j) ++ [l[j]!] := by
  rw [take_succ_get h, neL_append]
  generalize l[j]! = r at h2 ⊢
  simp [neL, h2]
  try omega
theorem neL_take_no {l : List Rg} {j : Nat} (h : j < l.length) (h2 : ¬ l[j]!.1 ≤ l[j]!.2) : neL (l.take (j + 1)) = neL (l.take j) := by
  rw [take_succ_get h, neL_append]
  generalize l[j]! = r at h2 ⊢
  simp [neL, h2]
  try omega
theorem neL_mem (l : List Rg) (n : Int) : mem (neL l) n ↔ mem l n := by
  unfold mem neL
  constructor
  · rintro ⟨r, hr, h⟩
    exact ⟨r, (List.mem_filter.1 hr).1, h⟩
  · rintro ⟨r, hr, h⟩
    exact ⟨r, List.mem_filter.2 ⟨hr, by simp; omega⟩, h⟩
theorem neL_ne (l : List Rg) : ∀ r ∈ neL l, r.1 ≤ r.2 := fun r hr => by simpa using (List.mem_filter.1 hr).2
theorem neL_bd {l : List Rg} (h : Bd l) : Bd (neL l) := fun r hr => h r ((List.mem_filter.1 hr).1)

/-- lists of ranges, each with its slice, in a block -/
def VAt (w : World) (a : Nat) (ls : List (List Rg)) : Prop := ∀ i, i < ls.length → ∃ s, w.cell? ⟨a, i, none⟩ = some s ∧ RSl w s ls[i]!
theorem VAt.below {w w' : World} {a : Nat} {ls : List (List Rg)} (h : VAt w a ls) (hb : Below w.heap.size w w') : VAt w' a ls := fun i hi => by
  obtain ⟨s, h1, h2⟩ := h i hi
  exact ⟨s, (World.cell?_of_block (w := w) (hb.block a (World.block_lt_of_cell? w _ h1))).trans h1, h2.below hb⟩
def tot (ls : List (List Rg)) (i : Nat) : List Rg := neL (ls.take i).flatten
theorem tot_succ {ls : List (List Rg)} {i : Nat} (h : i < ls.length) : tot ls (i + 1) = tot ls i ++ neL ls[i]! := by
  unfold tot
  rw [List.take_add_one, getElem!_pos ls i h, List.getElem?_eq_getElem h, List.flatten_append, neL_append]
  simp
theorem tot_le (ls : List (List Rg)) (i : Nat) : (tot ls i).length ≤ ls.flatten.length := by
  have h := neL_le (ls.take i).flatten
  have h2 : ((ls.take i).flatten).length ≤ ls.flatten.length := by
    conv => rhs; rw [← List.take_append_drop i ls, List.flatten_append, List.length_append]
    omega
  exact Nat.le_trans h h2
def RelO (w : World) (ls : List (List Rg)) (lv iv : Value) (wr : World) : Prop :=
  ∃ i : Nat, i ≤ ls.length ∧ iv = .int .i64 (i : Nat) ∧ OwnR w.heap.size wr lv (tot ls i) ∧ Below w.heap.size w wr
def RelI (w : World) (D s : List Rg) (lv jv : Value) (wr : World) : Prop :=
  ∃ j : Nat, j ≤ s.length ∧ jv = .int .i64 (j : Nat) ∧ OwnR w.heap.size wr lv (D ++ neL (s.take j)) ∧ Below w.heap.size w wr
theorem RSl.cell {w : World} {s : Value} {l : List Rg} (h : RSl w s l) {j : Nat} (hj : j < l.length) : ∃ g o cap, s = .slice (some ⟨g, o, none⟩) l.length cap ∧ g < w.heap.size ∧ ∀ W, Below w.heap.size w W → W.cell? ⟨g, o + j * 2, none⟩ = some (.int .i64 l[j]!.1) ∧ W.cell? ⟨g, o + j * 2 + 1, none⟩ = some (.int .i64 l[j]!.2) := by
  obtain ⟨g, o, cap, e, _, hg, hd⟩ := h.at (by omega)
  refine ⟨g, o, cap, e, hg, fun W hW => ?_⟩
  rw [← (hd j hj).1, ← (hd j hj).2]
  exact ⟨World.cell?_of_block (w := w) (hW.block g hg), World.cell?_of_block (w := w) (hW.block g hg)⟩
set_option maxHeartbeats 4000000 in
theorem nonempty_ok (w : World) (a m : Nat) (ls : List (List Rg)) (hv : VAt w a ls) (hm : ls.length = m) (hn : ls.flatten.length ≤ 1000000000) (hm2 : m ≤ 1000000) :
    Calls Try.prog 57 #[.slice (some ⟨a, 0, none⟩) m m] w fun e w' => ∃ v, e = .returned v ∧ OwnR w.heap.size w' v (neL ls.flatten) ∧ Below w.heap.size w w' := by
  obtain ⟨i0, hi0, hz0, hz1, hz2⟩ := info_parts info_rg
  have HV := Lib.hid hv
  have HM := Lib.hid hm
  have HF := Lib.hid (fun i => Nat.le_trans (tot_le ls i) hn)
  have HN := Lib.hid hn
  clear hv hm hn
  go_enter Try.func57, Try.ntmps57
  go_wp2_with fail
  go_loopw [3, 10] (fun lv iv wr => RelO w ls lv iv wr) (fun _ iv _ => m - (Lib.intOf iv).toNat)
  case atStart => exact ⟨0, Nat.zero_le _, rfl, OwnR.nil _ _, Below.refl _ _⟩
  case round =>
    obtain ⟨i, hi, rfl, hown, hbel⟩ := hrel
    have HO := Lib.hid hown
    have HB := Lib.hid hbel
    clear hown hbel
    by_cases hlt : i < m
    · have q1 : decide ((i : Int) < (m : Int)) = true := decide_eq_true (by omega)
      have q1n : decide (i < m) = true := decide_eq_true hlt
      have hil : i < ls.length := by have := HM.out; omega
      obtain ⟨s, hs0, hr⟩ := HV.out i hil
      have hs := (World.cell?_of_block (w := w) (a := ⟨a, i, none⟩) (HB.out.block a (World.block_lt_of_cell? w _ hs0))).trans hs0
      clear hs0
      have HT := Lib.hid (tot_succ hil)
      obtain ⟨S, hS⟩ : ∃ S, ls[i]! = S := ⟨_, rfl⟩
      rw [hS] at hr HT
      have q3 : IntKind.i64.wrap ((i : Int) + 1) = ((i + 1 : Nat) : Int) := wrap_succ hlt (by omega)
      have hsl : S.length ≤ 1000000000 := by
        have h1 := HN.out
        have h2 : S.length ≤ ls.flatten.length := by
          rw [← hS, getElem!_pos ls i hil]
          exact (List.sublist_flatten_of_mem (List.getElem_mem hil)).length_le
        omega
      rcases Nat.eq_zero_or_pos S.length with h0 | h0
      · obtain rfl : S = [] := List.length_eq_zero_iff.1 h0
        obtain ⟨sa, scap, rfl⟩ := hr.shape
        have HR := Lib.hid hr
        clear hr hS h0 hsl
        simp only [List.length_nil] at hs
        go_wp2_with fail
        go_loopw [3, 16] (fun lv jv wr2 => jv = .int .i64 0 ∧ OwnR w.heap.size wr2 lv (tot ls i) ∧ Below w.heap.size w wr2) (fun _ _ _ => 0)
        case atStart => exact ⟨rfl, HO.out, HB.out⟩
        case round =>
          obtain ⟨rfl, hown, hbel⟩ := hrel
          have HO2 := Lib.hid hown
          have HB2 := Lib.hid hbel
          clear hown hbel
          go_wp2_with fail
          go_roundw
          case rel => exact ⟨i + 1, by have := HM.out; omega, rfl, by rw [HT.out]; simpa [neL] using HO2.out, HB2.out⟩
          case measure => simp only [Lib.intOf]; omega
      · obtain ⟨g, o, cap, rfl, hcap, hg, hd⟩ := hr.at h0
        have HG := Lib.hid hg
        have HD := Lib.hid (fun j (hj : j < S.length) (W : World) (hW : Below w.heap.size w W) => (show W.cell? ⟨g, o + j * 2, none⟩ = some (.int .i64 S[j]!.1) ∧ W.cell? ⟨g, o + j * 2 + 1, none⟩ = some (.int .i64 S[j]!.2) from by
          rw [← (hd j hj).1, ← (hd j hj).2]
          exact ⟨World.cell?_of_block (w := w) (hW.block g hg), World.cell?_of_block (w := w) (hW.block g hg)⟩))
        obtain ⟨n, hnn⟩ : ∃ n, S.length = n := ⟨_, rfl⟩
        rw [hnn] at HD hs hsl hcap
        have HNN := Lib.hid hnn
        have HTL := Lib.hid (HF.out (i + 1))
        have HTA := Lib.hid (HF.out i)
        clear hr hS hnn h0 hd hg
        go_wp2_with fail
        go_loopw [3, 16] (fun lv jv wr2 => RelI w (tot ls i) S lv jv wr2) (fun _ jv _ => n - (Lib.intOf jv).toNat)
        case atStart => exact ⟨0, Nat.zero_le _, rfl, by simpa [neL] using HO.out, HB.out⟩
        case round =>
          obtain ⟨j, hj, rfl, hown, hbel⟩ := hrel
          have HO2 := Lib.hid hown
          have HB2 := Lib.hid hbel
          clear hown hbel
          have hacc : (tot ls i ++ neL (S.take j)).length ≤ 2000000000 := by
            rw [List.length_append]
            have h1 := neL_le (S.take j)
            have h2 : (S.take j).length ≤ S.length := List.length_take_le' _ _
            have h3 := HTA.out
            have h4 := HNN.out
            omega
          by_cases hjt : j < n
          · have q2 : decide ((j : Int) < (n : Int)) = true := decide_eq_true (by omega)
            have q2n : decide (j < n) = true := decide_eq_true hjt
            have q4 : IntKind.i64.wrap ((j : Int) + 1) = ((j + 1 : Nat) : Int) := wrap_succ hjt (by omega)
            have hjs : j < S.length := by have := HNN.out; omega
            obtain ⟨c1, c2⟩ := HD.out j hjt _ HB2.out
            have HYES := Lib.hid (neL_take_yes hjs)
            have HNO := Lib.hid (neL_take_no hjs)
            have hgw : g < wr.heap.size := Nat.lt_of_lt_of_le HG.out HB2.out.size
            obtain ⟨x, hx⟩ : ∃ x, S[j]!.1 = x := ⟨_, rfl⟩
            obtain ⟨y, hy⟩ : ∃ y, S[j]!.2 = y := ⟨_, rfl⟩
            have hxy : S[j]! = (x, y) := by rw [← hx, ← hy]
            rw [hx] at c1
            rw [hy] at c2
            rw [hxy] at HYES HNO
            have HO3 := Lib.hid (HO2.out.below ((Below.refl wr.heap.size wr).alloc (Nat.le_refl _) (.cells #[.int .i64 x, .int .i64 y] 51)))
            have HB3 := Lib.hid (HB2.out.alloc HB2.out.size (.cells #[.int .i64 x, .int .i64 y] 51))
            have HX3 := Lib.hid (show ∀ W, Below (wr.alloc (.cells #[.int .i64 x, .int .i64 y] 51)).heap.size (wr.alloc (.cells #[.int .i64 x, .int .i64 y] 51)) W → W.cell? ⟨wr.heap.size, 0, none⟩ = some (.int .i64 x) ∧ W.cell? ⟨wr.heap.size, 1, none⟩ = some (.int .i64 y) from fun W hW => ⟨(hW.cell (p := ⟨wr.heap.size, 0, none⟩) (by simp)).trans (by simp), (hW.cell (p := ⟨wr.heap.size, 1, none⟩) (by simp)).trans (by simp)⟩)
            clear hx hy hxy HO2 HB2
            go_wp2_with fail
            refine (isEmpty_ok x y _).mono ?_
            rintro e w3 ⟨rfl, hb⟩
            obtain ⟨d1, d2⟩ := HX3.out w3 hb
            have HO4 := Lib.hid (HO3.out.below hb)
            have HB4 := Lib.hid (HB3.out.trans (hb.mono HB3.out.size))
            clear hb c1 c2 HO3 HB3 HX3
            by_cases he : y < x
            · have e1 : decide (y < x) = true := decide_eq_true he
              rw [e1]
              have HO5 := Lib.hid (HNO.out (by omega))
              go_wp2_with fail
              go_roundw
              case rel => exact ⟨j + 1, hjs, rfl, by rw [HO5.out]; exact HO4.out, HB4.out⟩
              case measure => simp only [Lib.intOf]; omega
            · have e1 : decide (y < x) = false := decide_eq_false he
              rw [e1]
              have HO5 := Lib.hid (HYES.out (by omega))
              go_wp2_with (at_builtin; refine wpList_append_own _ rfl (.tmp 23) (.tmp 25) 25 rfl w.heap.size 51 i0 rgZero 2 16 Try.underlying25 hi0 hz0 hz1 hz2 rfl (by decide) _ (tot ls i ++ neL (S.take j)).length (rcells (tot ls i ++ neL (S.take j))) rfl (World.ownsRow.alloc HO4.out _) ⟨w3.heap.size, 0, none⟩ 1 1 [.int .i64 x, .int .i64 y] rfl rfl (new_rg _ _ _) (one_rg x y) (by unfold maxLen; omega) (by omega) (by have := HB4.out.size; simp; omega) ?_; intro v' w4 hown4 hgr4 _; have HO6 := Lib.hid (own_snoc hown4); have HB6 := Lib.hid (own_grown HB4.out HO4.out (Nat.le_refl _) HB4.out.size _ hgr4); clear hown4 hgr4)
              go_roundw
              case rel => exact ⟨j + 1, hjs, rfl, by rw [HO5.out, ← List.append_assoc]; exact HO6.out, HB6.out⟩
              case measure => simp only [Lib.intOf]; omega
          · have q2 : decide ((j : Int) < (n : Int)) = false := decide_eq_false (by omega)
            have q2n : decide (j < n) = false := decide_eq_false hjt
            have HO3 := Lib.hid (show OwnR w.heap.size wr _ (tot ls (i + 1)) by
              have h1 := HNN.out
              have h2 : S.take j = S := List.take_of_length_le (by omega)
              rw [HT.out, ← h2]
              exact HO2.out)
            go_wp2_with fail
            go_roundw
            case rel => exact ⟨i + 1, by have := HM.out; omega, rfl, HO3.out, HB2.out⟩
            case measure => simp only [Lib.intOf]; omega
    · have q1 : decide ((i : Int) < (m : Int)) = false := decide_eq_false (by omega)
      have q1n : decide (i < m) = false := decide_eq_false hlt
      have hT : tot ls i = neL ls.flatten := by
        unfold tot
        rw [List.take_of_length_le (by have := HM.out; omega)]
      rw [hT] at HO
      go_wp2_with fail
      go_ret
      exact ⟨_, rfl, HO.out, HB.out⟩
end Go.Proofs.Ytfnpjdglfaaegaa
