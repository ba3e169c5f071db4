/-
  Package spans: what is not in a normalized set.
-/
import Derived.Test.YtfnpjdglfaaegaaSpZ
namespace Go.Proofs.Ytfnpjdglfaaegaa
open Go.RowKit Go.Shelf
set_option linter.unusedVariables false
set_option linter.unusedSimpArgs false
set_option maxRecDepth 100000

theorem drop_get {l : List Rg} {i : Nat} (h : i < l.length) : l.drop i = l[i]! :: l.drop (i + 1) := by
  rw [List.drop_eq_getElem_cons h, getElem!_pos l i h]
def RelX (w : World) (R s : List Rg) (lv fv iv : Value) (wr : World) : Prop :=
  ∃ (i : Nat) (acc : List Rg) (f : Int), i ≤ s.length ∧ acc.length ≤ i ∧ iv = .int .i64 (i : Nat) ∧ fv = .int .i64 f ∧ I64 f ∧ acc ++ oth f (s.drop i) = R ∧ OwnR w.heap.size wr lv acc ∧ Below w.heap.size w wr
theorem oth_end (f : Int) : oth f [] = [(f, 9223372036854775807)] := rfl
theorem oth_cons (f : Int) (r : Rg) (t : List Rg) : oth f (r :: t) = (if f < r.1 then [(f, r.1 - 1)] else []) ++ (if r.2 = 9223372036854775807 then [] else oth (r.2 + 1) t) := rfl
set_option maxHeartbeats 4000000 in
theorem others_ok (w : World) (v : Value) (s : List Rg) (hv : RSl w v s) (hn : s.length ≤ 1000000000) :
    Calls Try.prog 46 #[v] w fun e w' => ∃ v', e = .returned v' ∧ OwnR w.heap.size w' v' (oth (-9223372036854775808) s) ∧ Below w.heap.size w w' := by
  obtain ⟨i0, hi0, hz0, hz1, hz2⟩ := info_parts info_rg
  obtain ⟨R, hR⟩ : ∃ R, oth (-9223372036854775808) s = R := ⟨_, rfl⟩
  rw [hR]
  have H0 := Lib.hid (show RelX w R s (.slice none 0 0) (.int .i64 (-9223372036854775808)) (.int .i64 0) w from ⟨0, [], _, Nat.zero_le _, Nat.le_refl _, rfl, rfl, by unfold I64; omega, hR, OwnR.nil _ _, Below.refl _ _⟩)
  have hbd := hv.bd
  have HBD := Lib.hid hbd
  have hcase : (s = [] ∧ ∃ a cap, v = .slice a 0 cap) ∨ (∃ g o cap n, v = .slice (some ⟨g, o, none⟩) n cap ∧ s.length = n ∧ 0 < n ∧ g < w.heap.size ∧ ∀ j, j < n → ∀ W, Below w.heap.size w W → W.cell? ⟨g, o + j * 2, none⟩ = some (.int .i64 s[j]!.1) ∧ W.cell? ⟨g, o + j * 2 + 1, none⟩ = some (.int .i64 s[j]!.2)) := by
    rcases Nat.eq_zero_or_pos s.length with h0 | h0
    · obtain rfl : s = [] := List.length_eq_zero_iff.1 h0
      obtain ⟨a, cap, e⟩ := hv.shape
      exact .inl ⟨rfl, a, cap, e⟩
    · obtain ⟨g, o, cap, e, hc, hg, hd⟩ := hv.at h0
      refine .inr ⟨g, o, cap, s.length, e, rfl, h0, hg, fun j hj W hW => ?_⟩
      rw [← (hd j hj).1, ← (hd j hj).2]
      exact ⟨World.cell?_of_block (w := w) (hW.block g hg), World.cell?_of_block (w := w) (hW.block g hg)⟩
  clear hv hR hbd
  rcases hcase with ⟨rfl, a, cap, rfl⟩ | ⟨g, o, cap, n, rfl, hsn, h0, hg, hd⟩
  · clear hn
    go_enter Try.func46, Try.ntmps46
    go_wp2_with fail
    go_loopw [3, 4, 9] (fun lv fv iv wr => RelX w R [] lv fv iv wr) (fun _ _ _ _ => 0)
    case atStart => exact H0.out
    case round =>
      obtain ⟨i, acc, f, hi, hal, rfl, rfl, hf, hR, hown, hbel⟩ := hrel
      obtain rfl : i = 0 := by simpa using hi
      obtain rfl : acc = [] := List.length_eq_zero_iff.1 (by omega)
      have HO := Lib.hid hown
      have HB := Lib.hid hbel
      have HR := Lib.hid hR
      have hbw := hbel.size
      clear hown hbel hR H0 hi hal
      go_wp2_with (at_builtin; refine wpList_append_own _ rfl (.tmp 33) (.tmp 36) 25 rfl w.heap.size 51 i0 rgZero 2 16 Try.underlying25 hi0 hz0 hz1 hz2 rfl (by decide) _ ([] : List Rg).length (rcells []) rfl (World.ownsRow.alloc HO.out _) ⟨wr.heap.size, 0, none⟩ 1 1 [.int .i64 f, .int .i64 9223372036854775807] rfl rfl (new_rg _ _ _) (one_rg _ _) (by unfold maxLen; simp) (by simp) (by simp; omega) ?_; intro v' w4 hown4 hgr4 _; have HO4 := Lib.hid (own_snoc hown4); have HB4 := Lib.hid (own_grown HB.out HO.out (Nat.le_refl _) HB.out.size _ hgr4); clear hown4 hgr4)
      go_ret
      rw [← HR.out]
      exact ⟨_, rfl, HO4.out, HB4.out⟩
  · have HD := Lib.hid hd
    have HSN := Lib.hid hsn
    rw [hsn] at hn
    have HG := Lib.hid hg
    clear hd hsn hg
    go_enter Try.func46, Try.ntmps46
    go_wp2_with fail
    go_loopw [3, 4, 9] (fun lv fv iv wr => RelX w R s lv fv iv wr) (fun _ _ iv _ => n - (Lib.intOf iv).toNat)
    case atStart => exact H0.out
    case round =>
      clear H0
      obtain ⟨i, acc, f, hi, hal, rfl, rfl, hf, hR, hown, hbel⟩ := hrel
      have HO := Lib.hid hown
      have HOLD := Lib.hid hown
      have HB := Lib.hid hbel
      have hbw := hbel.size
      have HF := Lib.hid hf
      clear hown hbel hf
      have hin : i ≤ n := by have := HSN.out; omega
      by_cases hlt : i < n
      · have q1 : decide ((i : Int) < (n : Int)) = true := decide_eq_true (by omega)
        have q1n : decide (i < n) = true := decide_eq_true hlt
        have q3 : IntKind.i64.wrap ((i : Int) + 1) = ((i + 1 : Nat) : Int) := wrap_succ hlt (by omega)
        have hil : i < s.length := by have := HSN.out; omega
        have hgw : g < wr.heap.size := Nat.lt_of_lt_of_le HG.out hbw
        obtain ⟨c1, c2⟩ := HD.out i hlt wr HB.out
        have hb := HBD.out.get hil
        rw [drop_get hil, oth_cons] at hR
        obtain ⟨x, hx⟩ : ∃ x, s[i]!.1 = x := ⟨_, rfl⟩
        obtain ⟨y, hy⟩ : ∃ y, s[i]!.2 = y := ⟨_, rfl⟩
        rw [hx] at c1 hb hR
        rw [hy] at c2 hb hR
        have HBI := Lib.hid hb
        have HR := Lib.hid hR
        have HX3 := Lib.hid (show ∀ W, Below (wr.alloc (.cells #[.int .i64 x, .int .i64 y] 51)).heap.size (wr.alloc (.cells #[.int .i64 x, .int .i64 y] 51)) W → W.cell? ⟨wr.heap.size, 0, none⟩ = some (.int .i64 x) ∧ W.cell? ⟨wr.heap.size, 1, none⟩ = some (.int .i64 y) from fun W hW => ⟨(hW.cell (p := ⟨wr.heap.size, 0, none⟩) (by simp)).trans (by simp), (hW.cell (p := ⟨wr.heap.size, 1, none⟩) (by simp)).trans (by simp)⟩)
        have HO3 := Lib.hid (HO.out.below ((Below.refl wr.heap.size wr).alloc (Nat.le_refl _) (.cells #[.int .i64 x, .int .i64 y] 51)))
        have HB3 := Lib.hid (HB.out.alloc HB.out.size (.cells #[.int .i64 x, .int .i64 y] 51))
        clear hx hy hb hR HO HB
        by_cases hfx : f < x
        · have q5 : decide (f < x) = true := decide_eq_true hfx
          obtain ⟨x1, hx1⟩ : ∃ x1, x - 1 = x1 := ⟨_, rfl⟩
          have q6 : IntKind.i64.wrap (x - 1) = x1 := by rw [hx1]; exact wrap_ok (by have h1 := HBI.out.1; have h2 := HF.out; unfold I64 at *; omega)
          have HR2 := Lib.hid (show acc ++ [(f, x1)] ++ (if y = 9223372036854775807 then [] else oth (y + 1) (s.drop (i + 1))) = R by
            have h := HR.out
            rw [if_pos hfx, ← List.append_assoc, hx1] at h
            exact h)
          have hsize : (wr.alloc (.cells #[.int .i64 x, .int .i64 y] 51)).heap.size = wr.heap.size + 1 := by simp
          have HSZ := Lib.hid hsize
          have HX5 := Lib.hid (show ∀ lv0, OwnR w.heap.size wr lv0 acc → ∀ w4, ((wr.alloc (.cells #[.int .i64 x, .int .i64 y] 51)).alloc (.cells #[.int .i64 f, .int .i64 x1] 51)).grownBy w4 (Value.ownBlock lv0) → w4.cell? ⟨wr.heap.size, 0, none⟩ = some (.int .i64 x) ∧ w4.cell? ⟨wr.heap.size, 1, none⟩ = some (.int .i64 y) from fun lv0 hold w4 hg => by
            have e1 : some wr.heap.size ≠ Value.ownBlock lv0 := fun e => by have := (hold.lt _ e.symm).2; omega
            obtain ⟨a1, a2⟩ := HX3.out _ ((Below.refl _ (wr.alloc (.cells #[.int .i64 x, .int .i64 y] 51))).alloc (Nat.le_refl _) (.cells #[.int .i64 f, .int .i64 x1] 51))
            exact ⟨hg.cell a1 e1, hg.cell a2 e1⟩)
          clear hx1 HR hsize
          by_cases hy : y = 9223372036854775807
          · have q7 : (y == 9223372036854775807) = true := by rw [hy]; rfl
            have HR3 := Lib.hid (show acc ++ [(f, x1)] = R by have h := HR2.out; rw [if_pos hy, List.append_nil] at h; exact h)
            clear HR2 hy
            go_wp2_with (at_builtin; refine wpList_append_own _ rfl (.tmp 17) (.tmp 23) 25 rfl w.heap.size 51 i0 rgZero 2 16 Try.underlying25 hi0 hz0 hz1 hz2 rfl (by decide) _ acc.length (rcells acc) rfl (World.ownsRow.alloc HO3.out _) ⟨wr.heap.size + 1, 0, none⟩ 1 1 [.int .i64 f, .int .i64 x1] rfl rfl (by have := new_rg (wr.alloc (.cells #[.int .i64 x, .int .i64 y] 51)) f x1; rw [HSZ.out] at this; exact this) (one_rg _ _) (by unfold maxLen; omega) (by omega) (by simp; omega) ?_; intro v' w4 hown4 hgr4 _; have HO4 := Lib.hid (own_snoc hown4); have HB4 := Lib.hid (own_grown HB3.out HO3.out (Nat.le_refl _) HB3.out.size _ hgr4); have k5 := HX5.out _ HOLD.out w4 hgr4; have k1 := k5.1; have k2 := k5.2; clear hown4 hgr4 k5)
            go_ret
            rw [← HR3.out]
            exact ⟨_, rfl, HO4.out, HB4.out⟩
          · have q7 : (y == 9223372036854775807) = false := beq_false_of_ne hy
            obtain ⟨y1, hy1⟩ : ∃ y1, y + 1 = y1 := ⟨_, rfl⟩
            have hyi : I64 y1 := by have h1 := HBI.out.2; unfold I64 at *; omega
            have q8 : IntKind.i64.wrap (y + 1) = y1 := by rw [hy1]; exact wrap_ok hyi
            have HR3 := Lib.hid (show acc ++ [(f, x1)] ++ oth y1 (s.drop (i + 1)) = R by have h := HR2.out; rw [if_neg hy, hy1] at h; exact h)
            have HYI := Lib.hid hyi
            clear HR2 hy1 hyi hy
            go_wp2_with (at_builtin; refine wpList_append_own _ rfl (.tmp 17) (.tmp 23) 25 rfl w.heap.size 51 i0 rgZero 2 16 Try.underlying25 hi0 hz0 hz1 hz2 rfl (by decide) _ acc.length (rcells acc) rfl (World.ownsRow.alloc HO3.out _) ⟨wr.heap.size + 1, 0, none⟩ 1 1 [.int .i64 f, .int .i64 x1] rfl rfl (by have := new_rg (wr.alloc (.cells #[.int .i64 x, .int .i64 y] 51)) f x1; rw [HSZ.out] at this; exact this) (one_rg _ _) (by unfold maxLen; omega) (by omega) (by simp; omega) ?_; intro v' w4 hown4 hgr4 _; have HO4 := Lib.hid (own_snoc hown4); have HB4 := Lib.hid (own_grown HB3.out HO3.out (Nat.le_refl _) HB3.out.size _ hgr4); have k5 := HX5.out _ HOLD.out w4 hgr4; have k1 := k5.1; have k2 := k5.2; clear hown4 hgr4 k5)
            go_roundw
            case rel => exact ⟨i + 1, acc ++ [(f, x1)], y1, hil, by rw [List.length_append, List.length_singleton]; omega, rfl, rfl, HYI.out, HR3.out, HO4.out, HB4.out⟩
            case measure => simp only [Lib.intOf]; omega
        · have q5 : decide (f < x) = false := decide_eq_false hfx
          have HR2 := Lib.hid (show acc ++ (if y = 9223372036854775807 then [] else oth (y + 1) (s.drop (i + 1))) = R by
            have h := HR.out
            rw [if_neg hfx, List.nil_append] at h
            exact h)
          clear HR
          by_cases hy : y = 9223372036854775807
          · have q7 : (y == 9223372036854775807) = true := by rw [hy]; rfl
            have HR3 := Lib.hid (show acc = R by have h := HR2.out; rw [if_pos hy, List.append_nil] at h; exact h)
            clear HR2 hy
            go_wp2_with fail
            go_ret
            rw [← HR3.out]
            exact ⟨_, rfl, HO3.out, HB3.out⟩
          · have q7 : (y == 9223372036854775807) = false := beq_false_of_ne hy
            obtain ⟨y1, hy1⟩ : ∃ y1, y + 1 = y1 := ⟨_, rfl⟩
            have hyi : I64 y1 := by have h1 := HBI.out.2; unfold I64 at *; omega
            have q8 : IntKind.i64.wrap (y + 1) = y1 := by rw [hy1]; exact wrap_ok hyi
            have HR3 := Lib.hid (show acc ++ oth y1 (s.drop (i + 1)) = R by have h := HR2.out; rw [if_neg hy, hy1] at h; exact h)
            have HYI := Lib.hid hyi
            clear HR2 hy1 hyi hy
            go_wp2_with fail
            go_roundw
            case rel => exact ⟨i + 1, acc, y1, hil, by omega, rfl, rfl, HYI.out, HR3.out, HO3.out, HB3.out⟩
            case measure => simp only [Lib.intOf]; omega
      · have q1 : decide ((i : Int) < (n : Int)) = false := decide_eq_false (by omega)
        have q1n : decide (i < n) = false := decide_eq_false hlt
        have HR := Lib.hid (show acc ++ [(f, 9223372036854775807)] = R by
          rw [List.drop_of_length_le (by have := HSN.out; omega), oth_end] at hR
          exact hR)
        clear hR
        go_wp2_with (at_builtin; refine wpList_append_own _ rfl (.tmp 33) (.tmp 36) 25 rfl w.heap.size 51 i0 rgZero 2 16 Try.underlying25 hi0 hz0 hz1 hz2 rfl (by decide) _ acc.length (rcells acc) rfl (World.ownsRow.alloc HO.out _) ⟨wr.heap.size, 0, none⟩ 1 1 [.int .i64 f, .int .i64 9223372036854775807] rfl rfl (new_rg _ _ _) (one_rg _ _) (by unfold maxLen; omega) (by omega) (by simp; omega) ?_; intro v' w4 hown4 hgr4 _; have HO4 := Lib.hid (own_snoc hown4); have HB4 := Lib.hid (own_grown HB.out HO.out (Nat.le_refl _) HB.out.size _ hgr4); clear hown4 hgr4)
        go_ret
        rw [← HR.out]
        exact ⟨_, rfl, HO4.out, HB4.out⟩
end Go.Proofs.Ytfnpjdglfaaegaa
