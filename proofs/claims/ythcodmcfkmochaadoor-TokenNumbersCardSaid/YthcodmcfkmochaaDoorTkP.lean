/-
  Tokens in plain words: what holds of any text's tokens: in order, apart, each within the text; and '[]byte(s)' of any string.
-/
import Derived.Test.YthcodmcfkmochaaDoorTkL
import Derived.Lib.ConvBytes
import Derived.Lib.Index
namespace Go.Proofs.YthcodmcfkmochaaDoor
open Go.RowKit
set_option linter.unusedVariables false
set_option linter.unusedSimpArgs false
set_option maxRecDepth 100000

/-! ### a replacement is not longer -/
theorem index_found : ∀ {s sub : List UInt8} {i : Nat}, Lib.index s sub = i → Lib.occAt s sub i = true
  | [], sub, i, h => by
    unfold Lib.index at h
    cases sub with
    | nil =>
      have : i = 0 := by
        simp at h
        omega
      subst this
      rfl
    | cons c t =>
      simp at h
  | b :: l, sub, i, h => by
    unfold Lib.index at h
    by_cases h1 : sub.isPrefixOf (b :: l) = true
    · rw [if_pos h1] at h
      have : i = 0 := by omega
      subst this
      exact h1
    · rw [if_neg h1] at h
      have hge := Lib.index_ge l sub
      by_cases h2 : (Lib.index l sub == -1) = true
      · rw [if_pos h2] at h
        omega
      · rw [if_neg h2] at h
        have h3 : Lib.index l sub ≠ -1 := fun e => h2 (by rw [e]; rfl)
        obtain ⟨j, rfl⟩ : ∃ j, i = j + 1 := ⟨i - 1, by omega⟩
        exact index_found (s := l) (i := j) (by omega)
theorem replaceK_len (old new : List UInt8) (h0 : old ≠ []) (hl : new.length ≤ old.length) : ∀ (k : Nat) (s : List UInt8), (Lib.replaceK old new k s).length ≤ s.length
  | 0, s => Nat.le_refl _
  | k + 1, s => by
    by_cases h : Lib.index s old = -1
    · have e : Lib.replaceK old new (k + 1) s = s := by unfold Lib.replaceK; rw [if_pos (by rw [h]; rfl)]
      rw [e]
      exact Nat.le_refl _
    · have hge := Lib.index_ge s old
      obtain ⟨i, hi⟩ : ∃ i : Nat, Lib.index s old = i := ⟨(Lib.index s old).toNat, by omega⟩
      rw [Lib.replaceK_hit old new k s i hi]
      have h1 := replaceK_len old new h0 hl k (s.drop (i + old.length))
      have h2 := (Lib.occAt_room (index_found hi)).resolve_right h0
      rw [List.length_append, List.length_append, List.length_take]
      rw [List.length_drop] at h1
      omega
theorem unq_size (s : ByteArray) : (unq s).size ≤ s.size := by
  show (Lib.replaceAll s.data.toList [34, 34] [34]).toArray.size ≤ s.data.size
  rw [List.size_toArray, ← Array.length_toList]
  unfold Lib.replaceAll Lib.replace
  rw [if_neg (by decide)]
  exact replaceK_len _ _ (by decide) (by decide) _ _

/-! ### each token -/
theorem tkEnd_kind (l : List Nat) (p : Nat) : 1 ≤ (tkEnd l p).1 ∧ (tkEnd l p).1 ≤ 4 := by
  unfold tkEnd
  split
  · exact ⟨Nat.le_refl _, Nat.le_add_left _ _⟩
  · split
    · exact ⟨(show 1 ≤ 2 by omega), (show 2 ≤ 4 by omega)⟩
    · split
      · exact ⟨(show 1 ≤ 4 by omega), (show 4 ≤ 4 by omega)⟩
      · exact ⟨(show 1 ≤ 3 by omega), (show 3 ≤ 4 by omega)⟩
theorem tkEnd_four {l : List Nat} {p : Nat} (h : (tkEnd l p).1 = 4) (hne : (tkEnd l p).2 ≠ p) : p + 2 ≤ (tkEnd l p).2 := by
  cases hl : isLt (tAt l p) with
  | true => rw [tkEnd_w hl] at h; exact absurd h (by show ¬ (1 : Nat) = 4; decide)
  | false =>
    by_cases hd : isDg (tAt l p) = true ∨ (tAt l p = 45 ∧ isDg (tAt l (p + 1)) = true)
    · rw [tkEnd_i hl hd] at h; exact absurd h (by show ¬ (2 : Nat) = 4; decide)
    · by_cases hq : tAt l p = 34
      · rw [tkEnd_q hl hd hq] at hne ⊢
        show p + 2 ≤ qEnd l p
        have hne : qEnd l p ≠ p := hne
        unfold qEnd at *
        have := qGo_le l p (l.length + 1) (p + 1)
        omega
      · rw [tkEnd_s hl hd hq] at h; exact absurd h (by show ¬ (3 : Nat) = 4; decide)
/-- a token that stands in the text: it ends there, too; its letters -/
def Ok (s : ByteArray) (t : Tk) : Prop := t.a < s.size ∧ (tkEnd (cods s) t.a).2 ≠ t.a ∧ t = tkOf s (tkEnd (cods s) t.a).1 t.a (tkEnd (cods s) t.a).2
def tEnd (s : ByteArray) (t : Tk) : Nat := (tkEnd (cods s) t.a).2
theorem tkOf_a (s : ByteArray) (k p e : Nat) : (tkOf s k p e).a = p := by
  unfold tkOf
  split
  · rfl
  · split <;> rfl
theorem tkOf_k (s : ByteArray) (k p e : Nat) : (tkOf s k p e).k = k := by
  unfold tkOf
  split
  · rename_i h; exact h.symm
  · split
    · rename_i h; exact h.symm
    · rfl
theorem Ok.kind {s : ByteArray} {t : Tk} (h : Ok s t) : t.k = (tkEnd (cods s) t.a).1 := by rw [h.2.2, tkOf_k, tkOf_a]
theorem Ok.bounds {s : ByteArray} {t : Tk} (h : Ok s t) : t.a + 1 ≤ tEnd s t ∧ tEnd s t ≤ s.size := by
  have := (tkEnd_le (l := cods s) (p := t.a) (by rw [cods_length]; exact h.1)).resolve_left h.2.1
  rw [cods_length] at this
  exact this
theorem Ok.text {s : ByteArray} {t : Tk} (h : Ok s t) (hk : t.k = 1 ∨ t.k = 3) : t.t = sub s t.a (tEnd s t) ∧ t.t.size = tEnd s t - t.a := by
  have hb := h.bounds
  have e : t.t = sub s t.a (tEnd s t) := by
    have hk2 := h.kind
    have h1 := h.2.2
    rw [← hk2] at h1
    unfold tkOf at h1
    rw [if_neg (by omega), if_neg (by omega)] at h1
    exact congrArg Tk.t h1
  refine ⟨e, ?_⟩
  rw [e]
  exact sub_size s _ _ hb.2
theorem Ok.size {s : ByteArray} {t : Tk} (h : Ok s t) : t.a + max t.t.size 1 ≤ tEnd s t := by
  have hb := h.bounds
  have hk := tkEnd_kind (cods s) t.a
  have hk2 := h.kind
  by_cases h13 : t.k = 1 ∨ t.k = 3
  · have := (h.text h13).2
    omega
  · have h1 := h.2.2
    by_cases h2 : t.k = 2
    · rw [← hk2] at h1
      unfold tkOf at h1
      rw [if_pos h2] at h1
      have h3 : t.t = ⟨#[]⟩ := congrArg Tk.t h1
      have h4 : t.t.size = 0 := by rw [h3]; rfl
      omega
    · have h4 : t.k = 4 := by omega
      have h5 := tkEnd_four (hk2.symm.trans h4) h.2.1
      rw [← hk2] at h1
      unfold tkOf at h1
      rw [if_neg h2, if_pos h4] at h1
      have h6 : t.t = unq (sub s (t.a + 1) (tEnd s t - 1)) := congrArg Tk.t h1
      have h7 : t.t.size ≤ (sub s (t.a + 1) (tEnd s t - 1)).size := by rw [h6]; exact unq_size _
      have h8 : (sub s (t.a + 1) (tEnd s t - 1)).size = _ := sub_size s _ _ (by omega)
      have h9 : t.a + 2 ≤ tEnd s t := h5
      omega

/-! ### all tokens -/
/-- tokens stand in order, apart; what follows begins at q -/
def Good (s : ByteArray) (acc : List Tk) (q : Nat) : Prop := ∀ (i : Nat) (t : Tk), acc[i]? = some t → Ok s t ∧ ((∀ t', acc[i + 1]? = some t' → tEnd s t ≤ t'.a) ∧ tEnd s t ≤ q)
theorem good_snoc {s : ByteArray} {acc : List Tk} {q q' : Nat} {t : Tk} (h : Good s acc q) (ht : Ok s t) (ha : t.a = q) (hq : tEnd s t ≤ q') : Good s (acc ++ [t]) q' := by
  have hb := ht.bounds
  intro i u hu
  rw [List.getElem?_append] at hu
  by_cases h1 : i < acc.length
  · rw [if_pos h1] at hu
    obtain ⟨h2, h3, h4⟩ := h i u hu
    refine ⟨h2, fun t' ht' => ?_, by omega⟩
    rw [List.getElem?_append] at ht'
    by_cases h5 : i + 1 < acc.length
    · rw [if_pos h5] at ht'
      exact h3 t' ht'
    · rw [if_neg h5] at ht'
      have e : i + 1 - acc.length = 0 := by omega
      rw [e] at ht'
      obtain rfl : t = t' := Option.some.inj ht'
      omega
  · rw [if_neg h1] at hu
    obtain ⟨j, hj⟩ : ∃ j, i - acc.length = j := ⟨_, rfl⟩
    rw [hj] at hu
    cases j with
    | zero =>
      obtain rfl : t = u := Option.some.inj hu
      refine ⟨ht, fun t' ht' => ?_, hq⟩
      exfalso
      rw [List.getElem?_append, if_neg (by omega), show i + 1 - acc.length = 1 by omega] at ht'
      cases ht'
    | succ j => cases hu
theorem scGo_good (s : ByteArray) : ∀ (n q : Nat) (acc : List Tk), Good s acc q → q ≤ s.size → s.size + 1 ≤ n + q →
    ((scGo s n q acc).e = 6 ∧ (scGo s n q acc).l = [] ∧ (scGo s n q acc).p < s.size) ∨ ((scGo s n q acc).e = 0 ∧ (scGo s n q acc).p = s.size ∧ Good s (scGo s n q acc).l s.size)
  | 0, q, acc, h, h1, h2 => by omega
  | n + 1, q, acc, h, h1, h2 => by
    by_cases h3 : q < s.size
    · by_cases h4 : (tkEnd (cods s) q).2 = q
      · rw [scGo_err h3 h4]
        exact .inl ⟨rfl, rfl, h3⟩
      · rw [scGo_step h3 h4]
        have h5 := (tkEnd_le (l := cods s) (p := q) (by rw [cods_length]; exact h3)).resolve_left h4
        have h6 := skp_le (l := cods s) h5.2
        rw [cods_length] at h5 h6
        have e1 := tkOf_a s (tkEnd (cods s) q).1 q (tkEnd (cods s) q).2
        have hok : Ok s (tkOf s (tkEnd (cods s) q).1 q (tkEnd (cods s) q).2) := by
          unfold Ok
          rw [e1]
          exact ⟨h3, h4, rfl⟩
        refine scGo_good s n _ _ (good_snoc h hok e1 ?_) h6.2 (by omega)
        show (tkEnd (cods s) (tkOf s (tkEnd (cods s) q).1 q (tkEnd (cods s) q).2).a).2 ≤ _
        rw [e1]
        exact h6.1
    · rw [scGo_end h3]
      have e : q = s.size := by omega
      subst e
      exact .inr ⟨rfl, rfl, h⟩
theorem scF_good (s : ByteArray) : ((scF s).e = 6 ∧ (scF s).l = [] ∧ (scF s).p < s.size) ∨ ((scF s).e = 0 ∧ (scF s).p = s.size ∧ Good s (scF s).l s.size) :=
  scGo_good s (s.size + 1) _ [] (fun i t h => by cases h) (by have := skp_le (l := cods s) (p := 0) (Nat.zero_le _); rw [cods_length] at this; exact this.2) (by omega)
theorem sub_all (s : ByteArray) : sub s 0 s.size = s := by
  apply cods_inj
  rw [cods_sub]
  unfold cut
  rw [← cods_length, List.take_length, List.drop_zero]
theorem skp_zero {l : List Nat} {p : Nat} (h : ¬ isWs (tAt l p) = true) (h2 : ¬ (tAt l p = 45 ∧ tAt l (p + 1) = 45)) : skp l p = p := kGo_no h h2
theorem skp_end (s : ByteArray) : skp (cods s) s.size = s.size := by
  have := skp_le (l := cods s) (p := s.size) (by rw [cods_length]; exact Nat.le_refl _)
  rw [cods_length] at this
  omega
/-- a text that is one token -/
theorem scF_one {s : ByteArray} {k : Nat} (h0 : skp (cods s) 0 = 0) (hs : 0 < s.size) (hk : tkEnd (cods s) 0 = (k, s.size)) : scF s = ⟨[tkOf s k 0 s.size], s.size, 0⟩ := by
  unfold scF
  rw [h0]
  have h2 : (tkEnd (cods s) 0).2 = s.size := by rw [hk]
  rw [scGo_step hs (by omega), h2, skp_end, hk]
  obtain ⟨n, hn⟩ : ∃ n, s.size = n + 1 := ⟨s.size - 1, by omega⟩
  rw [show scGo s s.size = scGo s (n + 1) from congrArg (scGo s) hn, scGo_end (Nat.lt_irrefl _)]
  rfl
theorem scF_word {s : ByteArray} (h : isWd s = true) : scF s = ⟨[⟨1, s, 0, 0⟩], s.size, 0⟩ := by
  obtain ⟨h1, h2, h3⟩ := isWd_in h
  have e : tkEnd (cods s) 0 = (1, s.size) := by rw [tkEnd_w h1, h3]
  have h4 := isLt_iff.1 h1
  rw [scF_one (skp_zero (by rw [isWs_iff]; omega) (by omega)) h2 e]
  unfold tkOf
  rw [if_neg (by decide), if_neg (by decide), sub_all]
theorem scF_only {s : ByteArray} {t : Tk} (h : (scF s).e = 0) (hl : (scF s).l = [t]) (hk : t.k = 1) (ht : t.t = s) : isWd s = true := by
  rcases scF_good s with ⟨h1, _⟩ | ⟨_, _, h3⟩
  · rw [h1] at h; exact absurd h (by decide)
  · have h4 := (h3 0 t (by rw [hl]; rfl)).1
    have h5 := (h4.text (.inl hk)).2
    have h6 := h4.bounds
    rw [ht] at h5
    have h7 : t.a = 0 := by omega
    have h8 := h4.kind
    unfold tEnd at *
    rw [h7] at h5 h6 h8
    unfold isWd
    rw [Bool.and_eq_true, decide_eq_true_eq, decide_eq_true_eq]
    omega

/-! ### strings, compared -/
theorem str_eq (a : ByteArray) : (a.toList == a.toList) = true := beq_self_eq_true _
theorem str_ne {a b : ByteArray} (h : a ≠ b) : (a.toList == b.toList) = false := by
  rw [beq_eq_false_iff_ne]
  intro e
  apply h
  rw [ByteArray.toList_eq, ByteArray.toList_eq] at e
  exact ByteArray.ext (Array.toList_inj.1 e)

/-! ### '[]byte(s)' -/
theorem conv_str (w : World) (s : ByteArray) : ∃ v w1, (convert 9 24 (.string s)).run Tryd.prog w = .ok v w1 ∧ Sl w1 v (cods s) ∧ Below w.heap.size w w1 := by
  refine ⟨_, _, Lib.run_convert_string_bytes (P := Tryd.prog) w 9 24 5 s Tryd.underlying9 Tryd.underlying24 Tryd.underlying5, ?_, ?_⟩
  · refine .inl ⟨w.heap.size, 0, grownCap w s.size 0 5, by rw [cods_length], fun i hi => ?_⟩
    rw [cods_length] at hi
    rw [Nat.zero_add, Lib.bytesWorld_cell w 5 s i hi]
    congr 2
    unfold cods
    rw [List.getD_eq_getElem?_getD, List.getD_eq_getElem?_getD, List.getElem?_map]
    have h2 : i < s.data.toList.length := hi
    rw [List.getElem?_eq_getElem h2]
    rfl
  · exact ⟨rfl, rfl, rfl, by rw [Lib.bytesWorld_size]; omega, fun k hk => Lib.bytesWorld_at_old w _ _ k hk⟩
theorem cods_small (s : ByteArray) : ∀ x ∈ cods s, x < 256 := by
  intro x hx
  obtain ⟨c, _, rfl⟩ := List.mem_map.1 hx
  exact UInt8.toNat_lt c
/-- Scan of '[]byte(s)' -/
theorem scan_str (s : ByteArray) (hs : s.size ≤ 65536) (w : World) (v : Value) (hv : Sl w v (cods s)) (hgl : Gl w) :
    Calls Tryd.prog 12 #[v] w fun e w' => ∃ tv, e = .returned (.tuple #[tv, .int .i64 ((scF s).p : Nat), .int .i64 (scF s).e]) ∧ OwnT w.heap.size w' tv (scF s).l ∧ Below w.heap.size w w' := by
  have h := scan_ok w v (cods s) hv (cods_small s) (by rw [cods_length]; exact hs) hgl
  rw [bstr_cods] at h
  exact h
end Go.Proofs.YthcodmcfkmochaaDoor
