/-
  Tokens in plain words: a number's digits, and what they scan to: no walk here.
-/
import Derived.Test.YthcodmcfkmochaaDoorTkP
namespace Go.Proofs.YthcodmcfkmochaaDoor
open Go.RowKit
set_option linter.unusedVariables false
set_option linter.unusedSimpArgs false
set_option maxRecDepth 100000

def AllD (l : List Nat) : Prop := ∀ c ∈ l, 48 ≤ c ∧ c ≤ 57
def dig : Nat → Nat → List Nat
  | 0, _ => []
  | f + 1, m => if m = 0 then [] else dig f (m / 10) ++ [48 + m % 10]
theorem dig_zero (f : Nat) : dig f 0 = [] := by
  cases f with
  | zero => rfl
  | succ f => exact if_pos rfl
theorem dig_step {f m : Nat} (h : m ≠ 0) : dig (f + 1) m = dig f (m / 10) ++ [48 + m % 10] := if_neg h
theorem dig_all : ∀ (f m : Nat), AllD (dig f m)
  | 0, m => fun c h => by cases h
  | f + 1, m => by
    by_cases h : m = 0
    · subst h
      rw [dig_zero]
      exact fun c h => by cases h
    · rw [dig_step h]
      intro c hc
      rcases List.mem_append.1 hc with h1 | h1
      · exact dig_all f _ c h1
      · obtain rfl := List.mem_singleton.1 h1
        omega
theorem dig_len : ∀ (f m : Nat), (dig f m).length ≤ f
  | 0, m => Nat.le_refl _
  | f + 1, m => by
    by_cases h : m = 0
    · subst h
      rw [dig_zero]
      exact Nat.zero_le _
    · rw [dig_step h, List.length_append, List.length_singleton]
      have := dig_len f (m / 10)
      omega
theorem dig_val : ∀ (f m : Nat), m < 10 ^ f → decV 0 (dig f m) = m
  | 0, m, h => by
    have : m = 0 := by simpa using h
    subst this
    rfl
  | f + 1, m, h => by
    by_cases h0 : m = 0
    · subst h0
      rw [dig_zero]
      rfl
    · rw [dig_step h0]
      have h1 := dig_val f (m / 10) (by rw [Nat.pow_succ] at h; omega)
      unfold decV at h1 ⊢
      rw [List.foldl_append, h1]
      simp only [List.foldl_cons, List.foldl_nil]
      omega
theorem dig_head : ∀ (f m : Nat), m < 10 ^ f → m ≠ 0 → ∃ c r, dig f m = c :: r ∧ c ≠ 48
  | 0, m, h, h0 => absurd (by simpa using h) h0
  | f + 1, m, h, h0 => by
    rw [dig_step h0]
    by_cases h1 : m / 10 = 0
    · rw [h1, dig_zero]
      exact ⟨_, _, rfl, by omega⟩
    · obtain ⟨c, r, e, hc⟩ := dig_head f (m / 10) (by rw [Nat.pow_succ] at h; omega) h1
      rw [e]
      exact ⟨c, r ++ [48 + m % 10], rfl, hc⟩
theorem AllD.at {l : List Nat} (h : AllD l) {k : Nat} (hk : k < l.length) : isDg (tAt l k) = true := by
  unfold tAt
  rw [List.getD_eq_getElem?_getD, List.getElem?_eq_getElem hk]
  exact isDg_iff.2 (h _ (List.getElem_mem hk))
theorem AllD.small {l : List Nat} (h : AllD l) : ∀ x ∈ l, x < 256 := fun x hx => by have := h x hx; omega
theorem tAt_cons (c : Nat) (l : List Nat) (k : Nat) : tAt (c :: l) (k + 1) = tAt l k := rfl
theorem dEnd_all {l : List Nat} {f : Nat} (hf : f ≤ l.length) (h : ∀ k, f ≤ k → k < l.length → isDg (tAt l k) = true) : dEnd l f = l.length := by
  have h1 := dGo_le l (l.length + 1) f hf
  have h2 := dEnd_stop l f hf
  unfold dEnd at *
  rcases Nat.lt_or_ge (dGo l (l.length + 1) f) l.length with h3 | h3
  · exact absurd (h _ h1.1 h3) h2
  · omega
theorem isLt_of_dg {c : Nat} (h : isDg c = true) : isLt c = false := by
  rw [isDg_iff] at h
  cases hl : isLt c with
  | false => rfl
  | true => rw [isLt_iff] at hl; omega
theorem isLt_end (l : List Nat) : isLt (tAt l l.length) = false := by rw [tAt_out (Nat.le_refl _)]; rfl
theorem cut_all (l : List Nat) : cut l 0 l.length = l := by unfold cut; rw [List.take_length, List.drop_zero]
theorem bstr_cat (a b : List Nat) : bstr a ++ bstr b = bstr (a ++ b) := by
  apply ByteArray.ext
  rw [ByteArray.data_append]
  unfold bstr
  simp
/-- digits: nought alone, or no nought ahead -/
def Dig (d : List Nat) (m : Nat) : Prop := AllD d ∧ decV 0 d = m ∧ d.length ≤ 19 ∧ ((d = [48]) ∨ ∃ c r, d = c :: r ∧ c ≠ 48)
theorem Dig.ne {d : List Nat} {m : Nat} (h : Dig d m) : 0 < d.length := by
  rcases h.2.2.2 with e | ⟨c, r, e, _⟩ <;> rw [e] <;> simp
/-- a number that is not negative -/
theorem scan_dig {d : List Nat} {m : Nat} (h : Dig d m) (hm : m < 9223372036854775808) : scF (bstr d) = ⟨[⟨2, ⟨#[]⟩, (m : Int), 0⟩], d.length, 0⟩ := by
  have hc : cods (bstr d) = d := cods_bstr d h.1.small
  have hz : (bstr d).size = d.length := bstr_size d
  have h0 := h.1.at h.ne
  have h0i := isDg_iff.1 h0
  have hf : iFst d 0 = 0 := if_neg (by omega)
  have hd : dEnd d 0 = d.length := dEnd_all (Nat.zero_le _) fun k _ hk => h.1.at hk
  have hv : iVal d 0 = m := by unfold iVal; rw [hf, hd, cut_all]; exact h.2.1
  have hb : ¬ iBad d 0 := by
    unfold iBad
    rw [hf, hd, isLt_end]
    rintro (⟨h1, h2⟩ | h1)
    · rcases h.2.2.2 with e | ⟨c, r, e, hc⟩
      · rcases h2 with h2 | h2
        · omega
        · rw [e] at h2; simp at h2
      · rw [e] at h1; exact hc h1
    · cases h1
  have hi : iEnd d 0 = d.length := by unfold iEnd; rw [if_neg hb, if_pos (by rw [hv]; exact hm), hf, hd]
  have ht : tkEnd d 0 = (2, d.length) := by rw [tkEnd_i (isLt_of_dg h0) (.inl h0), hi]
  have hs : skp d 0 = 0 := skp_zero (by rw [isWs_iff]; omega) (by omega)
  have hone := scF_one (s := bstr d) (k := 2) (by rw [hc]; exact hs) (by rw [hz]; exact h.ne) (by rw [hc, hz]; exact ht)
  rw [hone, hz]
  unfold tkOf
  rw [if_pos rfl, hc, if_neg (by omega), hv]
/-- a number that is negative -/
theorem scan_neg {d : List Nat} {m : Nat} (h : Dig d m) (hm : m < 9223372036854775808) (h48 : d ≠ [48]) : scF (bstr (45 :: d)) = ⟨[⟨2, ⟨#[]⟩, -(m : Int), 0⟩], d.length + 1, 0⟩ := by
  have hsm : ∀ x ∈ 45 :: d, x < 256 := fun x hx => by
    rcases List.mem_cons.1 hx with e | e
    · omega
    · exact h.1.small x e
  have hc : cods (bstr (45 :: d)) = 45 :: d := cods_bstr _ hsm
  have hz : (bstr (45 :: d)).size = d.length + 1 := bstr_size _
  have h0 := h.1.at h.ne
  have h0i := isDg_iff.1 h0
  have hl : (45 :: d).length = d.length + 1 := rfl
  have e0 : tAt (45 :: d) 0 = 45 := rfl
  have e1 : tAt (45 :: d) 1 = tAt d 0 := rfl
  have hf : iFst (45 :: d) 0 = 1 := if_pos e0
  have hd : dEnd (45 :: d) 1 = d.length + 1 := dEnd_all (by omega) fun k h1 hk => by
    obtain ⟨j, rfl⟩ : ∃ j, k = j + 1 := ⟨k - 1, by omega⟩
    rw [tAt_cons]
    exact h.1.at (by omega)
  have hcut : cut (45 :: d) 1 (d.length + 1) = d := by
    unfold cut
    rw [← hl, List.take_length]
    rfl
  have hv : iVal (45 :: d) 0 = m := by unfold iVal; rw [hf, hd, hcut]; exact h.2.1
  have hb : ¬ iBad (45 :: d) 0 := by
    unfold iBad
    rw [hf, hd, ← hl, isLt_end]
    rintro (⟨h1, h2⟩ | h1)
    · rcases h.2.2.2 with e | ⟨c, r, e, hc⟩
      · exact h48 e
      · rw [e1, e] at h1; exact hc h1
    · cases h1
  have hi : iEnd (45 :: d) 0 = d.length + 1 := by unfold iEnd; rw [if_neg hb, if_pos (by rw [hv]; exact hm), hf, hd]
  have ht : tkEnd (45 :: d) 0 = (2, d.length + 1) := by rw [tkEnd_i (by rfl) (.inr ⟨e0, h0⟩), hi]
  have hs : skp (45 :: d) 0 = 0 := skp_zero (by rw [isWs_iff, e0]; decide) (fun ⟨_, h2⟩ => by have h3 : tAt d 0 = 45 := h2; omega)
  have hone := scF_one (s := bstr (45 :: d)) (k := 2) (by rw [hc]; exact hs) (by rw [hz]; omega) (by rw [hc, hz]; exact ht)
  rw [hone, hz]
  unfold tkOf
  rw [if_pos rfl, hc, if_pos e0, hv]
/-- a nought ahead -/
theorem scan_bad {d : List Nat} {m : Nat} (h : Dig d m) : scF (bstr (120 :: 32 :: 48 :: d)) = ⟨[], 2, 6⟩ := by
  have hsm : ∀ x ∈ 120 :: 32 :: 48 :: d, x < 256 := fun x hx => by
    simp only [List.mem_cons] at hx
    rcases hx with e | e | e | e
    · omega
    · omega
    · omega
    · exact h.1.small x e
  obtain ⟨l, hle⟩ : ∃ l, 120 :: 32 :: 48 :: d = l := ⟨_, rfl⟩
  have e0 : tAt l 0 = 120 := by rw [← hle]; rfl
  have e1 : tAt l 1 = 32 := by rw [← hle]; rfl
  have e2 : tAt l 2 = 48 := by rw [← hle]; rfl
  have hl : l.length = d.length + 3 := by rw [← hle]; rfl
  rw [hle] at hsm ⊢
  have hc : cods (bstr l) = l := cods_bstr _ hsm
  have hz : (bstr l).size = d.length + 3 := by rw [bstr_size, hl]
  have hne := h.ne
  have hd : dEnd l 2 = d.length + 3 := by
    rw [← hl]
    refine dEnd_all (by omega) fun k h1 hk => ?_
    by_cases h2 : k = 2
    · rw [h2, e2]; rfl
    · obtain ⟨j, rfl⟩ : ∃ j, k = j + 3 := ⟨k - 3, by omega⟩
      rw [← hle]
      exact h.1.at (by omega)
  have hf : iFst l 2 = 2 := if_neg (by omega)
  have hb : iBad l 2 := by
    unfold iBad
    rw [hf, hd]
    exact .inl ⟨e2, .inr (by omega)⟩
  have ht2 : tkEnd l 2 = (2, 2) := by
    rw [tkEnd_i (by rw [e2]; rfl) (.inl (by rw [e2]; rfl))]
    unfold iEnd
    rw [if_pos hb]
  have hw : wEnd l 0 = 1 := by
    unfold wEnd
    exact wGo_end (by show ¬ isA (tAt l 1) = true; rw [e1]; decide) (.inl (by show tAt l 1 ≠ 45; rw [e1]; decide))
  have ht0 : tkEnd l 0 = (1, 1) := by rw [tkEnd_w (by rw [e0]; rfl), hw]
  have hs0 : skp l 0 = 0 := skp_zero (by rw [e0]; decide) (fun ⟨h2, _⟩ => by omega)
  have hs1 : skp l 1 = 2 := by
    unfold skp
    rw [kGo_ws (by rw [e1]; rfl)]
    obtain ⟨n, hn⟩ : ∃ n, l.length = n + 1 := ⟨l.length - 1, by omega⟩
    rw [hn]
    exact kGo_no (by show ¬ isWs (tAt l 2) = true; rw [e2]; decide) (fun ⟨h2, _⟩ => by have h3 : tAt l 2 = 45 := h2; omega)
  unfold scF
  rw [hc, hs0, scGo_step (by omega) (by rw [hc, ht0]; decide), hc, ht0]
  show scGo (bstr l) (bstr l).size (skp l 1) _ = _
  rw [hs1]
  obtain ⟨n, hn⟩ : ∃ n, (bstr l).size = n + 1 := ⟨(bstr l).size - 1, by omega⟩
  rw [show scGo (bstr l) (bstr l).size = scGo (bstr l) (n + 1) from congrArg _ hn, scGo_err (by omega) (by rw [hc, ht2])]
end Go.Proofs.YthcodmcfkmochaaDoor
