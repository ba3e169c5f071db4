/-
  A bundle of texts, one behind the other: MbQ.
-/
import Derived.Test.YtjhecpkdpomkmaaGreatQB
namespace Go.Proofs.YtjhecpkdpomkmaaGreat
open Go.RowKit
set_option linter.unusedVariables false
set_option linter.unusedSimpArgs false
set_option maxRecDepth 100000

theorem SL.same_of {s t : SL} (hn : s.n = t.n) (h : ∀ j, j < s.n → s.f j = t.f j) : s.same t = true := by
  simp only [SL.same, hn, decide_true, Bool.true_and]
  exact allN_true fun j hj => by rw [h j (by omega)]; exact sEq_refl _
def leafOf : VT → VT → Prop
  | .nil, _ => False
  | .mk k m s _ _ _ _ _, v' => ∃ nm' a' cap' ch', v' = .mk k m s nm' a' 0 cap' ch' ∧ nm'.n = 0
/-- of a sequence's parts the first k: x of those that were told are taken, y stand in the whole one -/
def SeqR (r : DT) (nm nm' : SL) (C : Nat → Nat → Nat → Prop) (D : Nat → Nat → Nat → Prop) : Nat → Nat → Nat → Prop
  | 0, x, y => x = 0 ∧ y = 0
  | k + 1, x, y =>
    (∃ x0 y0, SeqR r nm nm' C D k x0 y0 ∧ x = x0 + 1 ∧ y = y0 + 1 ∧ (x0 < nm.n ∧ sEq (nm.f x0) (r.part k).name = true) ∧ nm'.f y0 = (r.part k).name ∧ C x0 y0 (r.part k).t.toNat) ∨
    (∃ y0, SeqR r nm nm' C D k x y0 ∧ y = y0 + (r.part k).d.n ∧ ¬ (x < nm.n ∧ sEq (nm.f x) (r.part k).name = true) ∧ ∀ j, j < (r.part k).d.n → nm'.f (y0 + j) = (r.part k).name ∧ D k j (y0 + j))
/-- 'v' is v, a value of row i, with all defaults' -/
def VT.full (d : TB) : VT → Nat → VT → Prop
  | .nil, _, _ => False
  | .mk k m s nm a n cap ch, i, v' => ∃ nm' a' n' cap' ch', v' = .mk k m s nm' a' n' cap' ch' ∧
    (if (d.f i).kind = 9 then nm'.n = 0 ∧ n' = n ∧ ∀ j, j < n → (ch j).full d (d.f i).elem.toNat (ch' j)
     else if (d.f i).kind = 10 then nm'.n = 0 ∧ n' = 1 ∧ (ch 0).full d ((d.f i).part ((d.f i).fnd s)).t.toNat (ch' 0)
     else if (d.f i).kind = 8 then nm'.n = n' ∧ SeqR (d.f i) nm nm' (fun x y t => (ch x).full d t (ch' y)) (fun k j y => leafOf (((d.f i).part k).d.f j) (ch' y)) (d.f i).count nm.n n'
     else nm'.n = 0 ∧ n' = 0)
theorem leaf_det : ∀ {x v' v'' : VT}, leafOf x v' → leafOf x v'' → v'.same v'' = true
  | .nil, _, _, h, _ => h.elim
  | .mk k m s nm a n cap ch, v', v'', h, h2 => by
    obtain ⟨nm', a', cap', ch', rfl, hn⟩ := h
    obtain ⟨nm2, a2, cap2, ch2, rfl, hn2⟩ := h2
    simp only [VT.same, beq_self_eq_true, sEq_refl, Bool.true_and, decide_true, allN, Bool.and_true]
    exact SL.same_of (by omega) (fun j hj => by omega)
/-- what 'has' says of a list's elements, an alternative, a sequence's parts -/
theorem has_9 {d : TB} {k m : Int} {s : ByteArray} {nm : SL} {a : Option Addr} {n cap : Nat} {ch : Nat → VT} {i : Nat} (hk : (d.f i).kind = 9) : (VT.mk k m s nm a n cap ch).has d i = true ↔ k = 9 ∧ bare k m s.size nm.n n = true ∧ (d.f i).isSize n = true ∧ ∀ j, j < n → (ch j).has d (d.f i).elem.toNat = true := by
  simp only [VT.has, hk, Bool.and_eq_true, beq_iff_eq]
  simp only [if_neg (show ¬ (9 : Int) = 1 by decide), if_neg (show ¬ (9 : Int) = 2 by decide), if_neg (show ¬ (9 : Int) = 3 by decide), if_neg (show ¬ ((9 : Int) = 5 ∨ (9 : Int) = 6 ∨ (9 : Int) = 7) by decide), if_true, Bool.and_eq_true, allN_iff]
  exact ⟨fun h => ⟨h.1.1, h.1.2, h.2⟩, fun h => ⟨⟨h.1, h.2.1⟩, h.2.2⟩⟩
theorem has_10 {d : TB} {k m : Int} {s : ByteArray} {nm : SL} {a : Option Addr} {n cap : Nat} {ch : Nat → VT} {i : Nat} (hk : (d.f i).kind = 10) : (VT.mk k m s nm a n cap ch).has d i = true ↔ k = 10 ∧ bare k m s.size nm.n n = true ∧ (d.f i).fnd s < (d.f i).count ∧ n = 1 ∧ (ch 0).has d ((d.f i).part ((d.f i).fnd s)).t.toNat = true := by
  simp only [VT.has, hk, Bool.and_eq_true, beq_iff_eq]
  simp only [if_neg (show ¬ (10 : Int) = 1 by decide), if_neg (show ¬ (10 : Int) = 2 by decide), if_neg (show ¬ (10 : Int) = 3 by decide), if_neg (show ¬ (10 : Int) = 9 by decide), if_neg (show ¬ ((10 : Int) = 5 ∨ (10 : Int) = 6 ∨ (10 : Int) = 7) by decide), if_true, Bool.and_eq_true, decide_eq_true_eq]
  exact ⟨fun h => ⟨h.1.1, h.1.2, h.2⟩, fun h => ⟨⟨h.1, h.2.1⟩, h.2.2⟩⟩
theorem has_8 {d : TB} {k m : Int} {s : ByteArray} {nm : SL} {a : Option Addr} {n cap : Nat} {ch : Nat → VT} {i : Nat} (hk : (d.f i).kind = 8) : (VT.mk k m s nm a n cap ch).has d i = true ↔ k = 8 ∧ bare k m s.size nm.n n = true ∧ n = nm.n ∧ seqGo (d.f i) nm (fun j x => (ch j).has d x) (d.f i).count = some nm.n := by
  simp only [VT.has, hk, Bool.and_eq_true, beq_iff_eq]
  simp only [if_neg (show ¬ (8 : Int) = 1 by decide), if_neg (show ¬ (8 : Int) = 2 by decide), if_neg (show ¬ (8 : Int) = 3 by decide), if_neg (show ¬ (8 : Int) = 9 by decide), if_neg (show ¬ (8 : Int) = 10 by decide), if_neg (show ¬ ((8 : Int) = 5 ∨ (8 : Int) = 6 ∨ (8 : Int) = 7) by decide), if_true, Bool.and_eq_true, decide_eq_true_eq]
  exact ⟨fun h => ⟨h.1.1, h.1.2, h.2⟩, fun h => ⟨⟨h.1, h.2.1⟩, h.2.2⟩⟩
/-- a told part's value belongs to the row of the part of its name -/
theorem has_child {d : TB} {k m : Int} {s : ByteArray} {nm : SL} {a : Option Addr} {n cap : Nat} {ch : Nat → VT} {i rows k1 x1 : Nat} (hr : RightRow (d.f i) rows) (hk : (d.f i).kind = 8) (hh : (VT.mk k m s nm a n cap ch).has d i = true)
    (h1 : k1 < (d.f i).count) (h2 : x1 < nm.n ∧ sEq (nm.f x1) ((d.f i).part k1).name = true) : (ch x1).has d ((d.f i).part k1).t.toNat = true := by
  obtain ⟨_, _, _, h5⟩ := (has_8 hk).1 hh
  obtain ⟨k2, _, e1, _, ⟨_, e2⟩, e3, _⟩ := seq_taken (k := 0) (x := 0) (j := x1) (Nat.zero_le _) rfl h5 (Nat.zero_le _) h2.1
  obtain rfl := hr.apart h1 e1 ((sEq_iff.1 h2.2).symm.trans (sEq_iff.1 e2))
  exact e3
theorem VT.same_mk {k m : Int} {s : ByteArray} {nm nm2 : SL} {a a2 : Option Addr} {n n2 cap cap2 : Nat} {ch ch2 : Nat → VT} (h1 : nm.same nm2 = true) (h2 : n = n2) (h3 : ∀ j, j < n → (ch j).same (ch2 j) = true) :
    (VT.mk k m s nm a n cap ch).same (VT.mk k m s nm2 a2 n2 cap2 ch2) = true := by
  simp only [VT.same, beq_self_eq_true, sEq_refl, h1, decide_eq_true h2, Bool.true_and]
  exact allN_true h3
end Go.Proofs.YtjhecpkdpomkmaaGreat
