/-
  A bundle of texts, one behind the other: MbQ.
-/
import Derived.Test.YtmaghmdcagdkhaaGreatQB
/-
  A value with all defaults: it belongs to its row, is no deeper, and is the same once more: no walk here.
-/
namespace Go.Proofs.YtmaghmdcagdkhaaGreat
open Go.RowKit
set_option linter.unusedVariables false
set_option linter.unusedSimpArgs false
set_option maxRecDepth 100000

theorem SL.same_of {s t : SL} (hn : s.n = t.n) (h : ∀ j, j < s.n → s.f j = t.f j) : s.same t = true := by
  simp only [SL.same, hn, decide_true, Bool.true_and]
  exact allN_true fun j hj => by rw [h j (by omega)]; exact sEq_refl _
def leafOf : VT → VT → Prop
  | .nil, _ => False
  | .mk k m s _ _ _ _ _, v' => ∃ nm' a' cap' ch', v' = .mk k m s nm' a' 0 cap' ch' ∧ nm'.n = 0
/-- of a sequence's parts the first k: x of those that were told are taken, y stand in the whole one -/
def SeqR (r : DT) (nm nm' : SL) (C : Nat → Nat → Nat → Prop) (D : Nat → Nat → Nat → Prop) : Nat → Nat → Nat → Prop
  | 0, x, y => x = 0 ∧ y = 0
  | k + 1, x, y =>
    (∃ x0 y0, SeqR r nm nm' C D k x0 y0 ∧ x = x0 + 1 ∧ y = y0 + 1 ∧ (x0 < nm.n ∧ sEq (nm.f x0) (r.part k).name = true) ∧ nm'.f y0 = (r.part k).name ∧ C x0 y0 (r.part k).t.toNat) ∨
    (∃ y0, SeqR r nm nm' C D k x y0 ∧ y = y0 + (r.part k).d.n ∧ ¬ (x < nm.n ∧ sEq (nm.f x) (r.part k).name = true) ∧ ∀ j, j < (r.part k).d.n → nm'.f (y0 + j) = (r.part k).name ∧ D k j (y0 + j))
/-- 'v' is v, a value of row i, with all defaults' -/
def VT.full (d : TB) : VT → Nat → VT → Prop
  | .nil, _, _ => False
  | .mk k m s nm a n cap ch, i, v' => ∃ nm' a' n' cap' ch', v' = .mk k m s nm' a' n' cap' ch' ∧
    (if (d.f i).kind = 9 then nm'.n = 0 ∧ n' = n ∧ ∀ j, j < n → (ch j).full d (d.f i).elem.toNat (ch' j)
     else if (d.f i).kind = 10 then nm'.n = 0 ∧ n' = 1 ∧ (ch 0).full d ((d.f i).part ((d.f i).fnd s)).t.toNat (ch' 0)
     else if (d.f i).kind = 8 then nm'.n = n' ∧ SeqR (d.f i) nm nm' (fun x y t => (ch x).full d t (ch' y)) (fun k j y => leafOf (((d.f i).part k).d.f j) (ch' y)) (d.f i).count nm.n n'
     else nm'.n = 0 ∧ n' = 0)
theorem VT.full_kind {d : TB} : ∀ {v v' : VT} {i : Nat}, v.full d i v' → v'.k = v.k
  | .nil, _, _, h => by simp [VT.full] at h
  | .mk k m s nm a n cap ch, v', i, h => by
    obtain ⟨nm', a', n', cap', ch', rfl, _⟩ := h
    rfl
theorem seqR_mono {r : DT} {nm nm' : SL} {C : Nat → Nat → Nat → Prop} {D : Nat → Nat → Nat → Prop} {k : Nat} : ∀ {K X Y : Nat}, SeqR r nm nm' C D K X Y → k ≤ K → ∃ x y, SeqR r nm nm' C D k x y ∧ x ≤ X ∧ y ≤ Y
  | 0, X, Y, h, hk => by obtain rfl : k = 0 := by omega
                         exact ⟨X, Y, h, Nat.le_refl _, Nat.le_refl _⟩
  | K + 1, X, Y, h, hk => by
    rcases Nat.lt_or_ge k (K + 1) with h1 | h1
    · rcases h with ⟨x0, y0, h2, rfl, rfl, _⟩ | ⟨y0, h2, rfl, _⟩
      · obtain ⟨x, y, h3, h4, h5⟩ := seqR_mono (k := k) h2 (by omega)
        exact ⟨x, y, h3, by omega, by omega⟩
      · obtain ⟨x, y, h3, h4, h5⟩ := seqR_mono (k := k) h2 (by omega)
        exact ⟨x, y, h3, by omega, by omega⟩
    · obtain rfl : k = K + 1 := by omega
      exact ⟨X, Y, h, Nat.le_refl _, Nat.le_refl _⟩
/-- it goes one way alone -/
theorem seqR_det {r : DT} {nm nm' nm2 : SL} {C C2 : Nat → Nat → Nat → Prop} {D D2 : Nat → Nat → Nat → Prop} : ∀ {k x y x2 y2 : Nat}, SeqR r nm nm' C D k x y → SeqR r nm nm2 C2 D2 k x2 y2 → x = x2 ∧ y = y2
  | 0, x, y, x2, y2, h, h2 => by obtain ⟨rfl, rfl⟩ := h; obtain ⟨rfl, rfl⟩ := h2; exact ⟨rfl, rfl⟩
  | k + 1, x, y, x2, y2, h, h2 => by
    rcases h with ⟨x0, y0, h3, rfl, rfl, c, _⟩ | ⟨y0, h3, rfl, c, _⟩
    · rcases h2 with ⟨x1, y1, h4, rfl, rfl, c2, _⟩ | ⟨y1, h4, rfl, c2, _⟩
      · obtain ⟨rfl, rfl⟩ := seqR_det h3 h4
        exact ⟨rfl, rfl⟩
      · obtain ⟨rfl, rfl⟩ := seqR_det h3 h4
        exact absurd c c2
    · rcases h2 with ⟨x1, y1, h4, rfl, rfl, c2, _⟩ | ⟨y1, h4, rfl, c2, _⟩
      · obtain ⟨rfl, rfl⟩ := seqR_det h3 h4
        exact absurd c2 c
      · obtain ⟨rfl, rfl⟩ := seqR_det h3 h4
        exact ⟨rfl, rfl⟩
theorem seqR_go {r : DT} {nm nm' : SL} {C : Nat → Nat → Nat → Prop} {D : Nat → Nat → Nat → Prop} {h : Nat → Nat → Bool} : ∀ {k x y x2 : Nat}, SeqR r nm nm' C D k x y → seqGo r nm h k = some x2 → x = x2
  | 0, x, y, x2, hR, e => by obtain ⟨rfl, rfl⟩ := hR; injection e
  | k + 1, x, y, x2, hR, e => by
    obtain ⟨x3, e3, h3⟩ := seq_step e
    rcases hR with ⟨x0, y0, h2, rfl, rfl, c, _⟩ | ⟨y0, h2, rfl, c, _⟩
    · obtain rfl := seqR_go h2 e3
      rcases h3 with ⟨_, _, rfl⟩ | ⟨c2, _, _⟩
      · rfl
      · exact absurd c c2
    · obtain rfl := seqR_go h2 e3
      rcases h3 with ⟨c2, _, _⟩ | ⟨_, _, rfl⟩
      · exact absurd c2 c
      · rfl
/-- where a place of the whole one comes from -/
theorem seqR_src {r : DT} {nm nm' : SL} {C : Nat → Nat → Nat → Prop} {D : Nat → Nat → Nat → Prop} {k x y : Nat} (h0 : SeqR r nm nm' C D k x y) : ∀ {K X Y j : Nat}, SeqR r nm nm' C D K X Y → k ≤ K → y ≤ j → j < Y →
    ∃ k1, k ≤ k1 ∧ k1 < K ∧ nm'.f j = (r.part k1).name ∧ ((∃ x1, (x1 < nm.n ∧ sEq (nm.f x1) (r.part k1).name = true) ∧ C x1 j (r.part k1).t.toNat) ∨ (∃ j1, j1 < (r.part k1).d.n ∧ D k1 j1 j))
  | 0, X, Y, j, h, hk, hj, hj2 => by
    obtain ⟨rfl, rfl⟩ := h
    omega
  | K + 1, X, Y, j, h, hk, hj, hj2 => by
    rcases Nat.lt_or_ge k (K + 1) with h1 | h1
    · rcases h with ⟨x0, y0, h2, rfl, rfl, c, c2, c3⟩ | ⟨y0, h2, rfl, c, c2⟩
      · rcases Nat.lt_or_ge j y0 with h3 | h3
        · obtain ⟨k1, a1, a2, a3⟩ := seqR_src h0 h2 (by omega) hj h3
          exact ⟨k1, a1, by omega, a3⟩
        · obtain rfl : j = y0 := by omega
          exact ⟨K, by omega, by omega, c2, .inl ⟨x0, c, c3⟩⟩
      · rcases Nat.lt_or_ge j y0 with h3 | h3
        · obtain ⟨k1, a1, a2, a3⟩ := seqR_src h0 h2 (by omega) hj h3
          exact ⟨k1, a1, by omega, a3⟩
        · obtain ⟨z, rfl⟩ : ∃ z, j = y0 + z := ⟨j - y0, by omega⟩
          obtain ⟨e1, e2⟩ := c2 z (by omega)
          exact ⟨K, by omega, by omega, e1, .inr ⟨z, by omega, e2⟩⟩
    · obtain rfl : k = K + 1 := by omega
      have := (seqR_det h0 h).2
      omega
theorem leaf_deeper : ∀ {x v' : VT} {m : Nat}, isDfl x.k = true → leafOf x v' → v'.deeper m = false
  | .nil, _, _, _, h => h.elim
  | .mk k m s nm a n cap ch, v', q, hd, h => by
    obtain ⟨nm', a', cap', ch', rfl, hn⟩ := h
    have : isParted k = false := by
      simp only [isDfl, VT.k, Bool.or_eq_true, beq_iff_eq] at hd
      rcases hd with ((rfl | rfl) | rfl) | rfl <;> rfl
    simp [VT.deeper, this]
theorem leaf_has {d : TB} {i : Nat} : ∀ {x v' : VT}, isDfl x.k = true → x.has d i = true → leafOf x v' → v'.has d i = true
  | .nil, _, _, _, h => h.elim
  | .mk k m s nm a n cap ch, v', hd, hx, h => by
    obtain ⟨nm', a', cap', ch', rfl, hn⟩ := h
    have hk := VT.has_kind hx
    simp only [VT.k] at hk hd
    simp only [VT.has, Bool.and_eq_true, ← hk] at hx ⊢
    obtain ⟨⟨h1, h2⟩, h3⟩ := hx
    rw [hn]
    simp only [isDfl, Bool.or_eq_true, beq_iff_eq] at hd
    refine ⟨⟨h1, ?_⟩, ?_⟩
    · unfold bare at h2 ⊢
      simp only [Bool.and_eq_true] at h2 ⊢
      exact ⟨⟨⟨h2.1.1.1, h2.1.1.2⟩, by simp⟩, by simp⟩
    · rcases hd with ((rfl | rfl) | rfl) | rfl <;> simpa using h3
theorem leaf_same {d : TB} {i : Nat} : ∀ {x v' v'' : VT}, isDfl x.k = true → x.has d i = true → leafOf x v' → v'.full d i v'' → v'.same v'' = true
  | .nil, _, _, _, _, h, _ => h.elim
  | .mk k m s nm a n cap ch, v', v'', hd, hx, h, h2 => by
    have hk := VT.has_kind hx
    obtain ⟨nm', a', cap', ch', rfl, hn⟩ := h
    obtain ⟨nm2, a2, n2, cap2, ch2, rfl, h3⟩ := h2
    simp only [VT.k] at hk hd
    simp only [isDfl, Bool.or_eq_true, beq_iff_eq] at hd
    rw [← hk] at h3
    have : nm2.n = 0 ∧ n2 = 0 := by
      rcases hd with ((rfl | rfl) | rfl) | rfl <;> simpa using h3
    simp only [VT.same, beq_self_eq_true, sEq_refl, Bool.true_and, this.2, decide_true, allN, Bool.and_true]
    exact SL.same_of (by omega) (fun j hj => by omega)
theorem leaf_det : ∀ {x v' v'' : VT}, leafOf x v' → leafOf x v'' → v'.same v'' = true
  | .nil, _, _, h, _ => h.elim
  | .mk k m s nm a n cap ch, v', v'', h, h2 => by
    obtain ⟨nm', a', cap', ch', rfl, hn⟩ := h
    obtain ⟨nm2, a2, cap2, ch2, rfl, hn2⟩ := h2
    simp only [VT.same, beq_self_eq_true, sEq_refl, Bool.true_and, decide_true, allN, Bool.and_true]
    exact SL.same_of (by omega) (fun j hj => by omega)
/-- what 'has' says of a list's elements, an alternative, a sequence's parts -/
theorem has_9 {d : TB} {k m : Int} {s : ByteArray} {nm : SL} {a : Option Addr} {n cap : Nat} {ch : Nat → VT} {i : Nat} (hk : (d.f i).kind = 9) : (VT.mk k m s nm a n cap ch).has d i = true ↔ k = 9 ∧ bare k m s.size nm.n n = true ∧ (d.f i).isSize n = true ∧ ∀ j, j < n → (ch j).has d (d.f i).elem.toNat = true := by
  simp only [VT.has, hk, Bool.and_eq_true, beq_iff_eq]
  simp only [if_neg (show ¬ (9 : Int) = 1 by decide), if_neg (show ¬ (9 : Int) = 2 by decide), if_neg (show ¬ (9 : Int) = 3 by decide), if_neg (show ¬ ((9 : Int) = 5 ∨ (9 : Int) = 6 ∨ (9 : Int) = 7) by decide), if_true, Bool.and_eq_true, allN_iff]
  exact ⟨fun h => ⟨h.1.1, h.1.2, h.2⟩, fun h => ⟨⟨h.1, h.2.1⟩, h.2.2⟩⟩
theorem has_10 {d : TB} {k m : Int} {s : ByteArray} {nm : SL} {a : Option Addr} {n cap : Nat} {ch : Nat → VT} {i : Nat} (hk : (d.f i).kind = 10) : (VT.mk k m s nm a n cap ch).has d i = true ↔ k = 10 ∧ bare k m s.size nm.n n = true ∧ (d.f i).fnd s < (d.f i).count ∧ n = 1 ∧ (ch 0).has d ((d.f i).part ((d.f i).fnd s)).t.toNat = true := by
  simp only [VT.has, hk, Bool.and_eq_true, beq_iff_eq]
  simp only [if_neg (show ¬ (10 : Int) = 1 by decide), if_neg (show ¬ (10 : Int) = 2 by decide), if_neg (show ¬ (10 : Int) = 3 by decide), if_neg (show ¬ (10 : Int) = 9 by decide), if_neg (show ¬ ((10 : Int) = 5 ∨ (10 : Int) = 6 ∨ (10 : Int) = 7) by decide), if_true, Bool.and_eq_true, decide_eq_true_eq]
  exact ⟨fun h => ⟨h.1.1, h.1.2, h.2⟩, fun h => ⟨⟨h.1, h.2.1⟩, h.2.2⟩⟩
theorem has_8 {d : TB} {k m : Int} {s : ByteArray} {nm : SL} {a : Option Addr} {n cap : Nat} {ch : Nat → VT} {i : Nat} (hk : (d.f i).kind = 8) : (VT.mk k m s nm a n cap ch).has d i = true ↔ k = 8 ∧ bare k m s.size nm.n n = true ∧ n = nm.n ∧ seqGo (d.f i) nm (fun j x => (ch j).has d x) (d.f i).count = some nm.n := by
  simp only [VT.has, hk, Bool.and_eq_true, beq_iff_eq]
  simp only [if_neg (show ¬ (8 : Int) = 1 by decide), if_neg (show ¬ (8 : Int) = 2 by decide), if_neg (show ¬ (8 : Int) = 3 by decide), if_neg (show ¬ (8 : Int) = 9 by decide), if_neg (show ¬ (8 : Int) = 10 by decide), if_neg (show ¬ ((8 : Int) = 5 ∨ (8 : Int) = 6 ∨ (8 : Int) = 7) by decide), if_true, Bool.and_eq_true, decide_eq_true_eq]
  exact ⟨fun h => ⟨h.1.1, h.1.2, h.2⟩, fun h => ⟨⟨h.1, h.2.1⟩, h.2.2⟩⟩
/-- a told part's value belongs to the row of the part of its name -/
theorem has_child {d : TB} {k m : Int} {s : ByteArray} {nm : SL} {a : Option Addr} {n cap : Nat} {ch : Nat → VT} {i rows k1 x1 : Nat} (hr : RightRow (d.f i) rows) (hk : (d.f i).kind = 8) (hh : (VT.mk k m s nm a n cap ch).has d i = true)
    (h1 : k1 < (d.f i).count) (h2 : x1 < nm.n ∧ sEq (nm.f x1) ((d.f i).part k1).name = true) : (ch x1).has d ((d.f i).part k1).t.toNat = true := by
  obtain ⟨_, _, _, h5⟩ := (has_8 hk).1 hh
  obtain ⟨k2, _, e1, _, ⟨_, e2⟩, e3, _⟩ := seq_taken (k := 0) (x := 0) (j := x1) (Nat.zero_le _) rfl h5 (Nat.zero_le _) h2.1
  obtain rfl := hr.apart h1 e1 ((sEq_iff.1 h2.2).symm.trans (sEq_iff.1 e2))
  exact e3
theorem full_deeper {d : TB} (hg : d.good = true) : ∀ {v v' : VT} {i m : Nat}, i < d.n → v.has d i = true → v.full d i v' → v.deeper m = false → v'.deeper m = false
  | .nil, _, _, _, _, _, h, _ => by simp [VT.full] at h
  | .mk k m0 s nm a n cap ch, v', i, m, hi, hh, h, hd => by
    have hrow := TB.right_row (TB.good_right hg) hi
    have hkd := VT.has_kind hh
    simp only [VT.k] at hkd
    obtain ⟨nm', a', n', cap', ch', rfl, h3⟩ := h
    simp only [VT.deeper] at hd ⊢
    cases hp : isParted k with
    | false => rfl
    | true =>
      rw [hp] at hd
      simp only [Bool.true_and, Bool.or_eq_false_iff] at hd ⊢
      refine ⟨hd.1, ?_⟩
      have hall : ∀ j, j < n → (ch j).deeper (m - 1) = false := fun j hj => by
        cases hb : (ch j).deeper (m - 1) with
        | false => rfl
        | true => rw [anyN_yes hj hb] at hd; cases hd.2
      refine anyN_no fun j hj => ?_
      by_cases h9 : (d.f i).kind = 9
      · rw [if_pos h9] at h3
        obtain ⟨_, rfl, h4⟩ := h3
        have he := hrow.elem_t h9
        exact full_deeper hg he.2 (((has_9 h9).1 hh).2.2.2 j hj) (h4 j hj) (hall j hj)
      · rw [if_neg h9] at h3
        by_cases h10 : (d.f i).kind = 10
        · rw [if_pos h10] at h3
          obtain ⟨_, rfl, h4⟩ := h3
          obtain rfl : j = 0 := by omega
          obtain ⟨_, _, hf, h5, h6⟩ := (has_10 h10).1 hh
          have he := (FT.ok_t (hrow.part hf).2).2
          exact full_deeper hg he h6 h4 (hall 0 (by omega))
        · rw [if_neg h10] at h3
          by_cases h8 : (d.f i).kind = 8
          · rw [if_pos h8] at h3
            obtain ⟨hn', h4⟩ := h3
            obtain ⟨_, _, hn, h5⟩ := (has_8 h8).1 hh
            obtain ⟨k1, _, b1, b2, b3⟩ := seqR_src (k := 0) (x := 0) (y := 0) ⟨rfl, rfl⟩ h4 (Nat.zero_le _) (Nat.zero_le _) hj
            have ht := (FT.ok_t (hrow.part b1).2).2
            rcases b3 with ⟨x1, c1, c2⟩ | ⟨j1, c1, c2⟩
            · exact full_deeper hg ht (has_child hrow h8 hh b1 c1) c2 (hall x1 (by omega))
            · exact leaf_deeper (TB.good_def hg hi b1 c1).1 c2
          · exfalso
            simp only [isParted, Bool.or_eq_true, beq_iff_eq] at hp
            omega
theorem full_has {d : TB} (hg : d.good = true) : ∀ {v v' : VT} {i : Nat}, i < d.n → v.has d i = true → v.full d i v' → v'.has d i = true
  | .nil, _, _, _, _, h => by simp [VT.full] at h
  | .mk k m0 s nm a n cap ch, v', i, hi, hh, h => by
    have hrow := TB.right_row (TB.good_right hg) hi
    obtain ⟨nm', a', n', cap', ch', rfl, h3⟩ := h
    by_cases h9 : (d.f i).kind = 9
    · rw [if_pos h9] at h3
      obtain ⟨hn', rfl, h4⟩ := h3
      have he := hrow.elem_t h9
      obtain ⟨rfl, h5, h6, h7⟩ := (has_9 h9).1 hh
      refine (has_9 h9).2 ⟨rfl, ?_, h6, fun j hj => full_has hg he.2 (h7 j hj) (h4 j hj)⟩
      unfold bare at h5 ⊢
      rw [hn']
      simp only [Bool.and_eq_true] at h5 ⊢
      exact ⟨⟨h5.1.1, by simp⟩, h5.2⟩
    · rw [if_neg h9] at h3
      by_cases h10 : (d.f i).kind = 10
      · rw [if_pos h10] at h3
        obtain ⟨hn', rfl, h4⟩ := h3
        obtain ⟨rfl, h5, hf, rfl, h7⟩ := (has_10 h10).1 hh
        have he := (FT.ok_t (hrow.part hf).2).2
        refine (has_10 h10).2 ⟨rfl, ?_, hf, rfl, full_has hg he h7 h4⟩
        unfold bare at h5 ⊢
        rw [hn']
        simp only [Bool.and_eq_true] at h5 ⊢
        exact ⟨⟨h5.1.1, by simp⟩, h5.2⟩
      · rw [if_neg h10] at h3
        by_cases h8 : (d.f i).kind = 8
        · rw [if_pos h8] at h3
          obtain ⟨hn', h4⟩ := h3
          obtain ⟨rfl, h5, rfl, h7⟩ := (has_8 h8).1 hh
          refine (has_8 h8).2 ⟨rfl, ?_, hn'.symm, ?_⟩
          · unfold bare at h5 ⊢
            simp only [Bool.and_eq_true] at h5 ⊢
            exact ⟨⟨h5.1.1, by simp⟩, by simp⟩
          have key : ∀ k, k ≤ (d.f i).count → ∀ x y, SeqR (d.f i) nm nm' (fun x y t => (ch x).full d t (ch' y)) (fun k j y => leafOf (((d.f i).part k).d.f j) (ch' y)) k x y → seqGo (d.f i) nm' (fun j x => (ch' j).has d x) k = some y := by
            intro k
            induction k with
            | zero =>
              rintro _ x y ⟨rfl, rfl⟩
              rfl
            | succ k ih =>
              intro hk x y hR
              obtain ⟨xk, yk, hRk, _, hyk⟩ := seqR_mono (k := k + 1) h4 hk
              obtain ⟨rfl, rfl⟩ := seqR_det hRk hR
              have hpk := (hrow.part (show k < _ by omega)).2
              rcases hR with ⟨x0, y0, hR0, e1, e2, c, c2, c3⟩ | ⟨y0, hR0, e2, c, c2⟩
              · rw [e2]
                exact seq_take (ih (by omega) x0 y0 hR0) ⟨by omega, sEq_iff.2 c2⟩ (full_has hg (FT.ok_t hpk).2 (has_child hrow h8 hh (show k < _ by omega) c) c3)
              · have hdn := FT.ok_d hpk
                rcases Nat.eq_zero_or_pos ((d.f i).part k).d.n with h0 | h0
                · rw [h0] at e2
                  obtain ⟨x1, hx1, _⟩ := seq_some hk h7
                  obtain ⟨x2, hx2, hS3⟩ := seq_step hx1
                  have := seqR_go hR0 hx2
                  subst this
                  rw [e2, Nat.add_zero]
                  refine seq_skip (ih (by omega) _ y0 hR0) ?_ ?_
                  · rintro ⟨h1, h2⟩
                    obtain ⟨k1, b0, b1, b2, _⟩ := seqR_src (j := y0) hRk h4 hk (by omega) (by omega)
                    have := hrow.apart (j := k1) (k := k) b1 (by omega) (b2.symm.trans (sEq_iff.1 h2))
                    omega
                  · rcases hS3 with ⟨c5, _⟩ | ⟨_, c5, _⟩
                    · exact absurd c5 c
                    · exact c5
                · obtain ⟨f1, f2⟩ := c2 0 (by omega)
                  obtain ⟨g1, g2⟩ := TB.good_def hg hi (show k < _ by omega) h0
                  rw [e2, show ((d.f i).part k).d.n = 1 by omega]
                  exact seq_take (ih (by omega) _ y0 hR0) ⟨by omega, sEq_iff.2 f1⟩ (leaf_has g1 g2 f2)
          have h8' := key _ (Nat.le_refl _) _ _ h4
          rw [h8', hn']
        · rw [if_neg h8] at h3
          obtain ⟨hn', rfl⟩ := h3
          have hk := VT.has_kind hh
          simp only [VT.k] at hk
          simp only [VT.has, Bool.and_eq_true, if_neg h9, if_neg h10, if_neg h8] at hh ⊢
          refine ⟨⟨hh.1.1, ?_⟩, hh.2⟩
          have h5 := hh.1.2
          unfold bare at h5 ⊢
          rw [hn']
          simp only [Bool.and_eq_true] at h5 ⊢
          exact ⟨⟨h5.1.1, by simp⟩, by simp⟩
theorem VT.same_mk {k m : Int} {s : ByteArray} {nm nm2 : SL} {a a2 : Option Addr} {n n2 cap cap2 : Nat} {ch ch2 : Nat → VT} (h1 : nm.same nm2 = true) (h2 : n = n2) (h3 : ∀ j, j < n → (ch j).same (ch2 j) = true) :
    (VT.mk k m s nm a n cap ch).same (VT.mk k m s nm2 a2 n2 cap2 ch2) = true := by
  simp only [VT.same, beq_self_eq_true, sEq_refl, h1, decide_eq_true h2, Bool.true_and]
  exact allN_true h3
theorem full_same {d : TB} (hg : d.good = true) : ∀ {v v' v'' : VT} {i : Nat}, i < d.n → v.has d i = true → v.full d i v' → v'.full d i v'' → v'.same v'' = true
  | .nil, _, _, _, _, _, h, _ => by simp [VT.full] at h
  | .mk k m0 s nm a n cap ch, v', v'', i, hi, hh, h, hb => by
    have hrow := TB.right_row (TB.good_right hg) hi
    obtain ⟨nm', a', n', cap', ch', rfl, h3⟩ := h
    obtain ⟨nm2, a2, n2, cap2, ch2, rfl, h4⟩ := hb
    by_cases h9 : (d.f i).kind = 9
    · rw [if_pos h9] at h3 h4
      obtain ⟨hn', rfl, h5⟩ := h3
      obtain ⟨hn2, rfl, h6⟩ := h4
      have he := hrow.elem_t h9
      have h7 := ((has_9 h9).1 hh).2.2.2
      exact VT.same_mk (SL.same_of (by omega) (fun j hj => by omega)) rfl fun j hj => full_same hg he.2 (h7 j hj) (h5 j hj) (h6 j hj)
    · rw [if_neg h9] at h3 h4
      by_cases h10 : (d.f i).kind = 10
      · rw [if_pos h10] at h3 h4
        obtain ⟨hn', rfl, h5⟩ := h3
        obtain ⟨hn2, rfl, h6⟩ := h4
        obtain ⟨_, _, hf, _, h7⟩ := (has_10 h10).1 hh
        have he := (FT.ok_t (hrow.part hf).2).2
        exact VT.same_mk (SL.same_of (by omega) (fun j hj => by omega)) rfl fun j hj => by
          obtain rfl : j = 0 := by omega
          exact full_same hg he h7 h5 h6
      · rw [if_neg h10] at h3 h4
        by_cases h8 : (d.f i).kind = 8
        · rw [if_pos h8] at h3 h4
          obtain ⟨hn', h5⟩ := h3
          obtain ⟨hn2, h6⟩ := h4
          obtain ⟨_, _, hnn, h7⟩ := (has_8 h8).1 hh
          have key : ∀ k, k ≤ (d.f i).count → ∀ x y x2 y2, SeqR (d.f i) nm nm' (fun x y t => (ch x).full d t (ch' y)) (fun k j y => leafOf (((d.f i).part k).d.f j) (ch' y)) k x y →
              SeqR (d.f i) nm' nm2 (fun x y t => (ch' x).full d t (ch2 y)) (fun k j y => leafOf (((d.f i).part k).d.f j) (ch2 y)) k x2 y2 → x2 = y ∧ y2 = y ∧ ∀ j, j < y → nm'.f j = nm2.f j ∧ (ch' j).same (ch2 j) = true := by
            intro k
            induction k with
            | zero =>
              rintro _ x y x2 y2 ⟨rfl, rfl⟩ ⟨rfl, rfl⟩
              exact ⟨rfl, rfl, fun j hj => by omega⟩
            | succ k ih =>
              intro hk x y x2 y2 hR hR2
              obtain ⟨xk, yk, hRk, _, hyk⟩ := seqR_mono (k := k + 1) h5 hk
              obtain ⟨rfl, rfl⟩ := seqR_det hRk hR
              have hpk := (hrow.part (show k < _ by omega)).2
              rcases hR with ⟨x0, y0, hR0, e1, e2, c, c2, c3⟩ | ⟨y0, hR0, e2, c, c2⟩
              · rcases hR2 with ⟨u0, v0, hQ0, q1, q2, qc, qc2, qc3⟩ | ⟨v0, hQ0, q2, qc, qc2⟩
                · obtain ⟨rfl, rfl, hz⟩ := ih (by omega) _ _ _ _ hR0 hQ0
                  refine ⟨by omega, by omega, fun j hj => ?_⟩
                  rcases Nat.lt_or_ge j v0 with hl | hl
                  · exact hz j hl
                  · obtain rfl : j = v0 := by omega
                    exact ⟨c2.trans qc2.symm, full_same hg (FT.ok_t hpk).2 (has_child hrow h8 hh (show k < _ by omega) c) c3 qc3⟩
                · obtain ⟨rfl, rfl, hz⟩ := ih (by omega) _ _ _ _ hR0 hQ0
                  exact absurd ⟨by omega, sEq_iff.2 c2⟩ qc
              · have hdn := FT.ok_d hpk
                rcases Nat.eq_zero_or_pos ((d.f i).part k).d.n with h0 | h0
                · rw [h0, Nat.add_zero] at e2
                  rcases hR2 with ⟨u0, v0, hQ0, q1, q2, qc, qc2, qc3⟩ | ⟨v0, hQ0, q2, qc, qc2⟩
                  · obtain ⟨rfl, rfl, hz⟩ := ih (by omega) _ _ _ _ hR0 hQ0
                    exfalso
                    obtain ⟨k1, b0, b1, b2, _⟩ := seqR_src (j := v0) hRk h5 hk (by omega) (by omega)
                    have := hrow.apart (j := k1) (k := k) b1 (by omega) (b2.symm.trans (sEq_iff.1 qc.2))
                    omega
                  · obtain ⟨rfl, rfl, hz⟩ := ih (by omega) _ _ _ _ hR0 hQ0
                    exact ⟨by omega, by omega, fun j hj => hz j (by omega)⟩
                · obtain ⟨f1, f2⟩ := c2 0 (by omega)
                  obtain ⟨g1, g2⟩ := TB.good_def hg hi (show k < _ by omega) h0
                  rw [show ((d.f i).part k).d.n = 1 by omega] at e2
                  rcases hR2 with ⟨u0, v0, hQ0, q1, q2, qc, qc2, qc3⟩ | ⟨v0, hQ0, q2, qc, qc2⟩
                  · obtain ⟨rfl, rfl, hz⟩ := ih (by omega) _ _ _ _ hR0 hQ0
                    refine ⟨by omega, by omega, fun j hj => ?_⟩
                    rcases Nat.lt_or_ge j v0 with hl | hl
                    · exact hz j hl
                    · obtain rfl : j = v0 := by omega
                      exact ⟨f1.trans qc2.symm, leaf_same g1 g2 f2 qc3⟩
                  · obtain ⟨rfl, rfl, hz⟩ := ih (by omega) _ _ _ _ hR0 hQ0
                    exact absurd ⟨by omega, sEq_iff.2 f1⟩ qc
          obtain ⟨e1, e2, e3⟩ := key _ (Nat.le_refl _) _ _ _ _ h5 h6
          exact VT.same_mk (SL.same_of (by omega) (fun j hj => (e3 j (by omega)).1)) e2.symm fun j hj => (e3 j hj).2
        · rw [if_neg h8] at h3 h4
          exact VT.same_mk (SL.same_of (by omega) (fun j hj => by omega)) (by omega) fun j hj => by omega
end Go.Proofs.YtmaghmdcagdkhaaGreat
