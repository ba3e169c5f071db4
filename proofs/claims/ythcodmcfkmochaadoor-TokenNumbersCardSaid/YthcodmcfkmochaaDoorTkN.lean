/-
  Tokens in plain words: what digits spell, against the library's reading of them: no walk here.
-/
import Derived.Test.YthcodmcfkmochaaDoorTkM
import Derived.Lib.AtoiAllCases
namespace Go.Proofs.YthcodmcfkmochaaDoor
set_option linter.unusedVariables false
set_option linter.unusedSimpArgs false
set_option maxRecDepth 100000

theorem decV_cons (acc c : Nat) (r : List Nat) : decV acc (c :: r) = decV (acc * 10 + (c - 48)) r := by simp only [decV, List.foldl_cons]
theorem decV_ge : ∀ (r : List Nat) (acc : Nat), acc ≤ decV acc r
  | [], acc => Nat.le_refl _
  | c :: r, acc => by
    rw [decV_cons]
    have := decV_ge r (acc * 10 + (c - 48))
    omega
theorem pu10 : ∀ (b : List UInt8) (acc : Nat), (∀ c ∈ b, 48 ≤ c.toNat ∧ c.toNat ≤ 57) → acc < 18446744073709551616 → Lib.parseUint10 acc b = if decV acc (b.map (·.toNat)) < 18446744073709551616 then .ok (decV acc (b.map (·.toNat))) else .range
  | [], acc, _, ha => by
    show Lib.NumEnd.ok acc = if acc < _ then _ else _
    rw [if_pos ha]
    rfl
  | c :: r, acc, h, ha => by
    have hc := h c (List.mem_cons_self ..)
    rw [List.map_cons, decV_cons]
    have hge := decV_ge (r.map (·.toNat)) (acc * 10 + (c.toNat - 48))
    simp only [Lib.parseUint10]
    rw [if_pos hc]
    by_cases h1 : 1844674407370955162 ≤ acc
    · rw [if_pos h1, if_neg (by omega)]
    · rw [if_neg h1]
      by_cases h2 : 18446744073709551616 ≤ acc * 10 + (c.toNat - 48)
      · rw [if_pos h2, if_neg (by omega)]
      · rw [if_neg h2]
        exact pu10 r _ (fun c hc => h c (List.mem_cons_of_mem _ hc)) (by omega)
theorem mag_dig {b : List UInt8} (h : ∀ c ∈ b, 48 ≤ c.toNat ∧ c.toNat ≤ 57) (h0 : b ≠ []) : Lib.parseMag b = if decV 0 (b.map (·.toNat)) < 18446744073709551616 then .ok (decV 0 (b.map (·.toNat))) else .range := by
  unfold Lib.parseMag
  rw [if_neg h0]
  exact pu10 b 0 h (by omega)
theorem mem_cods {s : ByteArray} {P : Nat → Prop} (h : ∀ c ∈ cods s, P c) : ∀ c ∈ s.data.toList, P c.toNat := fun c hc => h _ (List.mem_map.2 ⟨c, hc, rfl⟩)
theorem atoi_dig (b : ByteArray) (h : ∀ c ∈ cods b, 48 ≤ c ∧ c ≤ 57) (h0 : cods b ≠ []) : Lib.atoiAll b.data.toList = if decV 0 (cods b) < 9223372036854775808 then .ok (decV 0 (cods b) : Int) else .range := by
  have hm := mem_cods h
  have hd : cods b = b.data.toList.map (·.toNat) := rfl
  rw [hd] at h0 ⊢
  generalize b.data.toList = l at *
  cases l with
  | nil => exact absurd rfl h0
  | cons c r =>
    have hc := hm c (List.mem_cons_self ..)
    have e := mag_dig hm (by simp)
    rw [Lib.atoiAll_plain c r (by omega) (by omega), e]
    by_cases h1 : decV 0 ((c :: r).map (·.toNat)) < 9223372036854775808
    · rw [if_pos (by omega), if_pos h1]
      unfold Lib.signless
      simp only
      rw [if_neg (by omega)]
    · rw [if_neg h1]
      split
      · unfold Lib.signless
        simp only
        rw [if_pos (by omega)]
      · rfl
theorem atoi_neg (b : ByteArray) (ds : List Nat) (hb : cods b = 45 :: ds) (h : ∀ c ∈ ds, 48 ≤ c ∧ c ≤ 57) (h0 : ds ≠ []) (hv : decV 0 ds < 9223372036854775808) : Lib.atoiAll b.data.toList = .ok (-(decV 0 ds : Int)) := by
  have hd : b.data.toList.map (·.toNat) = 45 :: ds := hb
  cases hl : b.data.toList with
  | nil => rw [hl] at hd; cases hd
  | cons c r =>
    rw [hl] at hd
    injection hd with h1 h2
    have h2 : r.map (·.toNat) = ds := h2
    have hc : c = 45 := UInt8.toNat_inj.1 h1
    subst hc
    have hm : ∀ c ∈ r, 48 ≤ c.toNat ∧ c.toNat ≤ 57 := fun c hc => h _ (by rw [← h2]; exact List.mem_map.2 ⟨c, hc, rfl⟩)
    rw [Lib.atoiAll_minus, mag_dig hm (by intro e; rw [e] at h2; exact h0 h2.symm), h2, if_pos (by omega)]
    unfold Lib.signed
    simp only
    rw [if_neg (by omega)]
theorem cut_length {l : List Nat} {i j : Nat} (h : j ≤ l.length) : (cut l i j).length = j - i := by
  unfold cut
  rw [List.length_drop, List.length_take]
  omega
theorem cut_at {l : List Nat} {i j k : Nat} (h : i + k < j) : (cut l i j).getD k 0 = tAt l (i + k) := by
  unfold cut tAt
  rw [List.getD_eq_getElem?_getD, List.getD_eq_getElem?_getD, List.getElem?_drop, List.getElem?_take, if_pos h]
theorem cut_mem {l : List Nat} {i j : Nat} {P : Nat → Prop} (h : ∀ k, i ≤ k → k < j → P (tAt l k)) (hj : j ≤ l.length) : ∀ c ∈ cut l i j, P c := by
  intro c hc
  obtain ⟨k, hk, e⟩ := List.getElem_of_mem hc
  rw [cut_length hj] at hk
  have h2 := cut_at (l := l) (i := i) (j := j) (k := k) (by omega)
  rw [List.getD_eq_getElem?_getD, List.getElem?_eq_getElem (by rw [cut_length hj]; exact hk)] at h2
  have h3 : c = tAt l (i + k) := e.symm.trans h2
  rw [h3]
  exact h _ (by omega) (by omega)
theorem cut_cons {l : List Nat} {i j : Nat} (h : i < j) (hj : j ≤ l.length) : cut l i j = tAt l i :: cut l (i + 1) j := by
  unfold cut tAt
  have hi : i < (l.take j).length := by rw [List.length_take]; omega
  rw [List.drop_eq_getElem_cons hi]
  congr 1
  rw [List.getD_eq_getElem?_getD, List.getElem?_eq_getElem (show i < l.length by omega), List.getElem_take]
  rfl
theorem cods_sub (s : ByteArray) (i j : Nat) : cods (sub s i j) = cut (cods s) i j := cods_extract s i j
/-- the digits of an integer -/
theorem dig_cut {l : List Nat} {p : Nat} (h : isDg (tAt l p) = true ∨ (tAt l p = 45 ∧ isDg (tAt l (p + 1)) = true)) : (∀ c ∈ cut l (iFst l p) (dEnd l (iFst l p)), 48 ≤ c ∧ c ≤ 57) ∧ cut l (iFst l p) (dEnd l (iFst l p)) ≠ [] := by
  obtain ⟨_, _, _, h4, h5⟩ := iFst_le h
  refine ⟨cut_mem (fun k h1 h2 => isDg_iff.1 (dGo_all l _ _ k h1 h2)) h5, ?_⟩
  intro e
  have := cut_length (l := l) (i := iFst l p) h5
  rw [e] at this
  simp at this
  omega
theorem dGo_stop (l : List Nat) : ∀ (n e : Nat), e ≤ l.length → l.length + 1 ≤ n + e → ¬ isDg (tAt l (dGo l n e)) = true
  | 0, e, h1, h2 => by omega
  | n + 1, e, h1, h2 => by
    by_cases h : isDg (tAt l e) = true
    · rw [dGo_step h]
      exact dGo_stop l n (e + 1) (isDg_in h) (by omega)
    · rw [dGo_end h]; exact h
theorem dEnd_stop (l : List Nat) (f : Nat) (h : f ≤ l.length) : ¬ isDg (tAt l (dEnd l f)) = true := dGo_stop l (l.length + 1) f h (by omega)
theorem atoi_digits (s : ByteArray) (p : Nat) (h : isDg (tAt (cods s) p) = true ∨ (tAt (cods s) p = 45 ∧ isDg (tAt (cods s) (p + 1)) = true)) :
    Lib.atoiAll (sub s (iFst (cods s) p) (dEnd (cods s) (iFst (cods s) p))).data.toList = if iVal (cods s) p < 9223372036854775808 then .ok (iVal (cods s) p : Int) else .range := by
  obtain ⟨h1, h2⟩ := dig_cut h
  have := atoi_dig (sub s (iFst (cods s) p) (dEnd (cods s) (iFst (cods s) p))) (by rw [cods_sub]; exact h1) (by rw [cods_sub]; exact h2)
  rw [cods_sub] at this
  exact this
theorem atoi_token (s : ByteArray) (p : Nat) (h : isDg (tAt (cods s) p) = true ∨ (tAt (cods s) p = 45 ∧ isDg (tAt (cods s) (p + 1)) = true)) (hv : iVal (cods s) p < 9223372036854775808) :
    Lib.atoiAll (sub s p (dEnd (cods s) (iFst (cods s) p))).data.toList = .ok (if tAt (cods s) p = 45 then -(iVal (cods s) p : Int) else (iVal (cods s) p : Int)) := by
  by_cases h45 : tAt (cods s) p = 45
  · rw [if_pos h45]
    have hf : iFst (cods s) p = p + 1 := if_pos h45
    obtain ⟨h1, h2⟩ := dig_cut h
    obtain ⟨_, _, _, h4, h5⟩ := iFst_le h
    unfold iVal at hv ⊢
    rw [hf] at h1 h2 h4 h5 hv ⊢
    refine atoi_neg _ _ ?_ h1 h2 hv
    rw [cods_sub, cut_cons (by omega) h5, h45]
  · rw [if_neg h45]
    have hf : iFst (cods s) p = p := if_neg h45
    have := atoi_digits s p h
    rw [if_pos hv] at this
    rw [hf] at this ⊢
    exact this
end Go.Proofs.YthcodmcfkmochaaDoor
