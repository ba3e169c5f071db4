/-
  Sets of integers as lists of ranges: membership, right lists, and that right lists of the same numbers are the same. Nothing of the program.
-/
import Derived.Test.YtfnpjdglfaaegaaProg
import Derived.RowKit
import Derived.Test.YtfnpjdglfaaegaaShM
namespace Go.Proofs.Ytfnpjdglfaaegaa
set_option linter.unusedVariables false
set_option linter.unusedSimpArgs false
set_option maxRecDepth 100000

abbrev Rg := Int × Int
abbrev lowest : Int := -9223372036854775808
abbrev most : Int := 9223372036854775807
def Bd (l : List Rg) : Prop := ∀ r ∈ l, I64 r.1 ∧ I64 r.2
def mem (l : List Rg) (n : Int) : Prop := ∃ r ∈ l, r.1 ≤ n ∧ n ≤ r.2
def rgt (l : List Rg) : Prop := l.Pairwise (fun r s => r.2 + 1 < s.1) ∧ ∀ r ∈ l, r.1 ≤ r.2
def hasB (l : List Rg) (n : Int) : Bool := l.any fun r => decide (r.1 ≤ n) && decide (n ≤ r.2)
theorem hasB_iff {l : List Rg} {n : Int} : hasB l n = true ↔ mem l n := by
  unfold hasB mem
  simp
theorem hasB_false {l : List Rg} {n : Int} : hasB l n = false ↔ ¬ mem l n := by
  rw [← hasB_iff]; simp
theorem hasB_eq {a b : List Rg} {n : Int} (h : mem a n ↔ mem b n) : hasB a n = hasB b n := by
  rw [Bool.eq_iff_iff, hasB_iff, hasB_iff, h]
theorem mem_nil {n : Int} : ¬ mem [] n := by simp [mem]
theorem mem_cons {r : Rg} {l : List Rg} {n : Int} : mem (r :: l) n ↔ (r.1 ≤ n ∧ n ≤ r.2) ∨ mem l n := by simp [mem]
theorem mem_append {a b : List Rg} {n : Int} : mem (a ++ b) n ↔ mem a n ∨ mem b n := by
  simp only [mem, List.mem_append, or_and_right, exists_or]
theorem mem_one {r : Rg} {n : Int} : mem [r] n ↔ r.1 ≤ n ∧ n ≤ r.2 := by simp [mem]
theorem Bd.nil : Bd [] := by simp [Bd]
theorem Bd.cons {r : Rg} {l : List Rg} : Bd (r :: l) ↔ (I64 r.1 ∧ I64 r.2) ∧ Bd l := by simp [Bd]
theorem Bd.append {a b : List Rg} : Bd (a ++ b) ↔ Bd a ∧ Bd b := by
  simp only [Bd, List.mem_append]
  exact ⟨fun h => ⟨fun r hr => h r (.inl hr), fun r hr => h r (.inr hr)⟩, fun h r hr => hr.elim (h.1 r) (h.2 r)⟩
theorem Bd.mem {l : List Rg} (h : Bd l) {n : Int} (hm : mem l n) : I64 n := by
  obtain ⟨r, hr, h1, h2⟩ := hm
  have := h r hr
  unfold I64 at *
  omega
theorem rgt_nil : rgt [] := by simp [rgt]
theorem rgt_cons {r : Rg} {l : List Rg} : rgt (r :: l) ↔ r.1 ≤ r.2 ∧ (∀ s ∈ l, r.2 + 1 < s.1) ∧ rgt l := by
  unfold rgt
  rw [List.pairwise_cons]
  constructor
  · rintro ⟨⟨h1, h2⟩, h3⟩
    exact ⟨h3 r (List.mem_cons_self ..), h1, h2, fun s hs => h3 s (List.mem_cons_of_mem _ hs)⟩
  · rintro ⟨h1, h2, h3, h4⟩
    refine ⟨⟨h2, h3⟩, fun s hs => ?_⟩
    rcases List.mem_cons.1 hs with rfl | hs
    · exact h1
    · exact h4 s hs
theorem rgt_one {r : Rg} : rgt [r] ↔ r.1 ≤ r.2 := by rw [rgt_cons]; simp [rgt_nil]
theorem rgt_append {a b : List Rg} : rgt (a ++ b) ↔ rgt a ∧ rgt b ∧ ∀ r ∈ a, ∀ s ∈ b, r.2 + 1 < s.1 := by
  unfold rgt
  rw [List.pairwise_append]
  constructor
  · rintro ⟨⟨h1, h2, h3⟩, h4⟩
    exact ⟨⟨h1, fun r hr => h4 r (List.mem_append_left _ hr)⟩, ⟨h2, fun r hr => h4 r (List.mem_append_right _ hr)⟩, h3⟩
  · rintro ⟨⟨h1, h2⟩, ⟨h3, h4⟩, h5⟩
    exact ⟨⟨h1, h3, h5⟩, fun r hr => (List.mem_append.1 hr).elim (h2 r) (h4 r)⟩
theorem rgt.lo {r : Rg} {l : List Rg} (h : rgt (r :: l)) {n : Int} (hm : mem (r :: l) n) : r.1 ≤ n := by
  obtain ⟨h1, h2, _⟩ := rgt_cons.1 h
  rcases mem_cons.1 hm with h3 | ⟨s, hs, h3, _⟩
  · exact h3.1
  · have := h2 s hs
    omega
theorem rgt.gap {r : Rg} {l : List Rg} (h : rgt (r :: l)) {n : Int} (hm : mem l n) : r.2 + 1 < n := by
  obtain ⟨h1, h2, _⟩ := rgt_cons.1 h
  obtain ⟨s, hs, h3, _⟩ := hm
  have := h2 s hs
  omega
theorem rgt.uniq : ∀ {a b : List Rg}, rgt a → rgt b → (∀ n, mem a n ↔ mem b n) → a = b
  | [], [], _, _, _ => rfl
  | [], s :: b, _, hb, h => absurd ((h s.1).2 (mem_cons.2 (.inl ⟨Int.le_refl _, (rgt_cons.1 hb).1⟩))) mem_nil
  | r :: a, [], ha, _, h => absurd ((h r.1).1 (mem_cons.2 (.inl ⟨Int.le_refl _, (rgt_cons.1 ha).1⟩))) mem_nil
  | (r1, r2) :: a, (s1, s2) :: b, ha, hb, h => by
    have hr := (rgt_cons.1 ha).1
    have hs := (rgt_cons.1 hb).1
    simp only at hr hs
    have e1 : r1 = s1 := by
      have h1 := hb.lo ((h r1).1 (mem_cons.2 (.inl ⟨Int.le_refl _, hr⟩)))
      have h2 := ha.lo ((h s1).2 (mem_cons.2 (.inl ⟨Int.le_refl _, hs⟩)))
      simp only at h1 h2
      omega
    subst e1
    have e2 : r2 = s2 := by
      rcases Int.lt_trichotomy r2 s2 with hlt | he | hlt
      · have h1 := (h (r2 + 1)).2 (mem_cons.2 (.inl ⟨by simp only; omega, by simp only; omega⟩))
        rcases mem_cons.1 h1 with h2 | h2
        · simp only at h2; omega
        · have := ha.gap h2; simp only at this; omega
      · exact he
      · have h1 := (h (s2 + 1)).1 (mem_cons.2 (.inl ⟨by simp only; omega, by simp only; omega⟩))
        rcases mem_cons.1 h1 with h2 | h2
        · simp only at h2; omega
        · have := hb.gap h2; simp only at this; omega
    subst e2
    congr 1
    refine rgt.uniq (rgt_cons.1 ha).2.2 (rgt_cons.1 hb).2.2 (fun n => ⟨fun hm => ?_, fun hm => ?_⟩)
    · have h1 := ha.gap hm
      rcases mem_cons.1 ((h n).1 (mem_cons.2 (.inr hm))) with h2 | h2
      · simp only at h1 h2; omega
      · exact h2
    · have h1 := hb.gap hm
      rcases mem_cons.1 ((h n).2 (mem_cons.2 (.inr hm))) with h2 | h2
      · simp only at h1 h2; omega
      · exact h2

/-- the set tells just the numbers for which p holds -/
def Says (l : List Rg) (p : Int → Prop) : Prop := rgt l ∧ Bd l ∧ ∀ n, I64 n → (mem l n ↔ p n)
theorem Says.eq {a b : List Rg} {p q : Int → Prop} (ha : Says a p) (hb : Says b q) (h : ∀ n, I64 n → (p n ↔ q n)) : a = b :=
  ha.1.uniq hb.1 fun n => ⟨fun hm => by have i := ha.2.1.mem hm; exact (hb.2.2 n i).2 ((h n i).1 ((ha.2.2 n i).1 hm)), fun hm => by have i := hb.2.1.mem hm; exact (ha.2.2 n i).2 ((h n i).2 ((hb.2.2 n i).1 hm))⟩
theorem Says.has {a : List Rg} {p : Int → Prop} (h : Says a p) {n : Int} (hn : I64 n) (b : Bool) (hb : b = true ↔ p n) : hasB a n = b := by
  rw [Bool.eq_iff_iff, hasB_iff, h.2.2 n hn, hb]

/-! ### joined -/
def stp (kept : List Rg) (r : Rg) : List Rg :=
  match kept.getLast? with
  | none => [r]
  | some k => if k.2 + 1 < r.1 then kept ++ [r] else kept.dropLast ++ [(k.1, max k.2 r.2)]
theorem stp_nil (r : Rg) : stp [] r = [r] := rfl
theorem stp_apart {i : List Rg} {k r : Rg} (h : k.2 + 1 < r.1) : stp (i ++ [k]) r = i ++ [k] ++ [r] := by
  simp [stp, h]
theorem stp_join {i : List Rg} {k r : Rg} (h : ¬ k.2 + 1 < r.1) : stp (i ++ [k]) r = i ++ [(k.1, max k.2 r.2)] := by
  simp [stp, h]
theorem snoc_cases (l : List Rg) : l = [] ∨ ∃ i k, l = i ++ [k] := by
  rcases List.eq_nil_or_concat l with h | ⟨i, k, h⟩
  · exact .inl h
  · exact .inr ⟨i, k, by simpa using h⟩
theorem rgt_snoc {i : List Rg} {k r : Rg} : rgt (i ++ [k] ++ [r]) ↔ rgt (i ++ [k]) ∧ k.2 + 1 < r.1 ∧ r.1 ≤ r.2 := by
  rw [rgt_append, rgt_one]
  constructor
  · rintro ⟨h1, h2, h3⟩
    exact ⟨h1, h3 k (by simp) r (by simp), h2⟩
  · rintro ⟨h1, h2, h3⟩
    refine ⟨h1, h3, fun s hs t ht => ?_⟩
    obtain rfl : t = r := by simpa using ht
    rcases List.mem_append.1 hs with hs | hs
    · have h4 := (rgt_append.1 h1).2.2 s hs k (by simp)
      have h5 := h1.2 k (by simp)
      omega
    · obtain rfl : s = k := by simpa using hs
      exact h2
structure JInv (done kept : List Rg) : Prop where
  rgt : rgt kept
  bd : Bd kept
  mem : ∀ n, mem kept n ↔ mem done n
  lo : ∀ k ∈ kept, ∃ d ∈ done, k.1 = d.1
  len : kept.length ≤ done.length
theorem JInv.nil : JInv [] [] := ⟨rgt_nil, Bd.nil, fun n => Iff.rfl, fun k hk => (by simp at hk), Nat.le_refl _⟩
theorem JInv.step {done kept : List Rg} {r : Rg} (h : JInv done kept) (hr : r.1 ≤ r.2) (hb : I64 r.1 ∧ I64 r.2) (hlo : ∀ d ∈ done, d.1 ≤ r.1) : JInv (done ++ [r]) (stp kept r) := by
  have hl := h.len
  rcases snoc_cases kept with rfl | ⟨i, k, rfl⟩
  · rw [stp_nil]
    refine ⟨rgt_one.2 hr, Bd.cons.2 ⟨hb, Bd.nil⟩, fun n => ?_, fun k hk => ⟨r, by simp, by simp at hk; rw [hk]⟩, by simp⟩
    rw [mem_append, ← h.mem n, mem_one]
    simp [mem_nil]
  · have hbk := h.bd k (by simp)
    have hbi := (Bd.append.1 h.bd).1
    have hk := h.rgt.2 k (by simp)
    obtain ⟨d, hd, hkd⟩ := h.lo k (by simp)
    have hdr := hlo d hd
    by_cases hap : k.2 + 1 < r.1
    · rw [stp_apart hap]
      refine ⟨rgt_snoc.2 ⟨h.rgt, hap, hr⟩, Bd.append.2 ⟨h.bd, Bd.cons.2 ⟨hb, Bd.nil⟩⟩, fun n => ?_, fun s hs => ?_, by simp at hl ⊢; omega⟩
      · rw [mem_append, mem_append (a := done), h.mem n]
      · rcases List.mem_append.1 hs with hs | hs
        · obtain ⟨d, hd, e⟩ := h.lo s hs
          exact ⟨d, List.mem_append_left _ hd, e⟩
        · exact ⟨r, by simp, by simp at hs; rw [hs]⟩
    · rw [stp_join hap]
      have hri := rgt_append.1 h.rgt
      refine ⟨rgt_append.2 ⟨hri.1, rgt_one.2 (by simp only; omega), fun s hs t ht => ?_⟩, Bd.append.2 ⟨hbi, Bd.cons.2 ⟨?_, Bd.nil⟩⟩, fun n => ?_, fun s hs => ?_, by simp at hl ⊢; omega⟩
      · obtain rfl : t = (k.1, max k.2 r.2) := by simpa using ht
        exact hri.2.2 s hs k (by simp)
      · unfold I64 at *
        simp only
        omega
      · rw [mem_append, mem_append, ← h.mem n, mem_append, mem_one, mem_one, mem_one, or_assoc]
        refine or_congr Iff.rfl ?_
        simp only
        omega
      · rcases List.mem_append.1 hs with hs | hs
        · obtain ⟨d, hd, e⟩ := h.lo s (List.mem_append_left _ hs)
          exact ⟨d, List.mem_append_left _ hd, e⟩
        · refine ⟨d, List.mem_append_left _ hd, ?_⟩
          simp at hs
          rw [hs]
          exact hkd

/-! ### common -/
def cmn : List Rg → List Rg → List Rg
  | [], _ => []
  | _ :: _, [] => []
  | a :: ta, b :: tb =>
    (if max a.1 b.1 ≤ min a.2 b.2 then [(max a.1 b.1, min a.2 b.2)] else []) ++ (if a.2 < b.2 then cmn ta (b :: tb) else cmn (a :: ta) tb)
  termination_by a b => a.length + b.length
theorem cmn_nil (b : List Rg) : cmn [] b = [] := by rw [cmn]
theorem cmn_nil2 (a : List Rg) : cmn a [] = [] := by cases a <;> rw [cmn]
theorem cmn_cons (a : Rg) (ta : List Rg) (b : Rg) (tb : List Rg) : cmn (a :: ta) (b :: tb) = (if max a.1 b.1 ≤ min a.2 b.2 then [(max a.1 b.1, min a.2 b.2)] else []) ++ (if a.2 < b.2 then cmn ta (b :: tb) else cmn (a :: ta) tb) := by rw [cmn]
theorem cmn_ok (N : Nat) : ∀ (a b : List Rg), a.length + b.length ≤ N → rgt a → rgt b → Bd a → Bd b →
    rgt (cmn a b) ∧ Bd (cmn a b) ∧ (∀ n, mem (cmn a b) n ↔ mem a n ∧ mem b n) ∧ (cmn a b).length ≤ a.length + b.length := by
  induction N with
  | zero =>
    intro a b hl ha hb _ _
    obtain rfl : a = [] := List.length_eq_zero_iff.1 (by omega)
    rw [cmn_nil]
    exact ⟨rgt_nil, Bd.nil, fun n => by simp [mem_nil], by simp⟩
  | succ N ih =>
    intro a b hl ha hb hba hbb
    match a, b with
    | [], b => rw [cmn_nil]; exact ⟨rgt_nil, Bd.nil, fun n => by simp [mem_nil], by simp⟩
    | a :: ta, [] => rw [cmn_nil2]; exact ⟨rgt_nil, Bd.nil, fun n => by simp [mem_nil], by simp⟩
    | a :: ta, b :: tb =>
      rw [cmn_cons]
      simp only [List.length_cons] at hl
      have h1 := rgt_cons.1 ha
      have h2 := rgt_cons.1 hb
      have b1 := Bd.cons.1 hba
      have b2 := Bd.cons.1 hbb
      -- what follows, with what it tells
      have key : ∃ T, (if a.2 < b.2 then cmn ta (b :: tb) else cmn (a :: ta) tb) = T ∧ rgt T ∧ Bd T ∧ T.length ≤ ta.length + tb.length + 1 ∧ (∀ n, mem T n → min a.2 b.2 + 1 < n) ∧ ∀ n, (mem (a :: ta) n ∧ mem (b :: tb) n ↔ (max a.1 b.1 ≤ n ∧ n ≤ min a.2 b.2) ∨ mem T n) := by
        by_cases hlt : a.2 < b.2
        · rw [if_pos hlt]
          obtain ⟨t1, t2, t3, t4⟩ := ih ta (b :: tb) (by simp only [List.length_cons]; omega) h1.2.2 hb b1.2 hbb
          simp only [List.length_cons] at t4
          refine ⟨_, rfl, t1, t2, by omega, fun n hn => ?_, fun n => ?_⟩
          · have := ha.gap ((t3 n).1 hn).1
            omega
          · rw [t3 n, mem_cons (r := a)]
            constructor
            · rintro ⟨h3 | h3, h4⟩
              · have := hb.lo h4
                exact .inl ⟨by omega, by omega⟩
              · exact .inr ⟨h3, h4⟩
            · rintro (h3 | ⟨h3, h4⟩)
              · exact ⟨.inl ⟨by omega, by omega⟩, mem_cons.2 (.inl ⟨by omega, by omega⟩)⟩
              · exact ⟨.inr h3, h4⟩
        · rw [if_neg hlt]
          obtain ⟨t1, t2, t3, t4⟩ := ih (a :: ta) tb (by simp only [List.length_cons]; omega) ha h2.2.2 hba b2.2
          simp only [List.length_cons] at t4
          refine ⟨_, rfl, t1, t2, by omega, fun n hn => ?_, fun n => ?_⟩
          · have := hb.gap ((t3 n).1 hn).2
            omega
          · rw [t3 n, mem_cons (r := b)]
            constructor
            · rintro ⟨h4, h3 | h3⟩
              · have := ha.lo h4
                exact .inl ⟨by omega, by omega⟩
              · exact .inr ⟨h4, h3⟩
            · rintro (h3 | ⟨h4, h3⟩)
              · exact ⟨mem_cons.2 (.inl ⟨by omega, by omega⟩), .inl ⟨by omega, by omega⟩⟩
              · exact ⟨h4, .inr h3⟩
      obtain ⟨T, hT, t1, t2, t3, t4, t5⟩ := key
      rw [hT]
      by_cases hc : max a.1 b.1 ≤ min a.2 b.2
      · rw [if_pos hc]
        refine ⟨?_, ?_, fun n => ?_, by simp; omega⟩
        · rw [List.singleton_append, rgt_cons]
          refine ⟨hc, fun s hs => ?_, t1⟩
          exact t4 s.1 ⟨s, hs, Int.le_refl _, t1.2 s hs⟩
        · rw [List.singleton_append, Bd.cons]
          refine ⟨?_, t2⟩
          unfold I64 at *
          simp only
          omega
        · rw [List.singleton_append, mem_cons, t5 n]
      · rw [if_neg hc]
        refine ⟨t1, t2, fun n => ?_, by simp; omega⟩
        rw [List.nil_append, t5 n]
        constructor
        · exact .inr
        · rintro (h | h)
          · omega
          · exact h

/-! ### others -/
def oth : Int → List Rg → List Rg
  | f, [] => [(f, 9223372036854775807)]
  | f, r :: t => (if f < r.1 then [(f, r.1 - 1)] else []) ++ (if r.2 = 9223372036854775807 then [] else oth (r.2 + 1) t)
theorem oth_ok : ∀ (s : List Rg) (f : Int), rgt s → Bd s → I64 f → (∀ r ∈ s, f = -9223372036854775808 ∨ f < r.1) →
    rgt (oth f s) ∧ Bd (oth f s) ∧ (∀ n, mem (oth f s) n → f ≤ n) ∧ (∀ n, I64 n → (mem (oth f s) n ↔ f ≤ n ∧ ¬ mem s n)) ∧ (oth f s).length ≤ s.length + 1
  | [], f, _, _, hf, _ => by
    unfold I64 at hf
    refine ⟨rgt_one.2 hf.2, ?_, fun n hn => (mem_one.1 hn).1, fun n hn => ?_, by simp [oth]⟩
    · simp only [oth, Bd, I64]
      simp
      omega
    · simp only [oth]
      rw [mem_one]
      unfold I64 at hn
      simp [mem_nil]
      omega
  | r :: t, f, hs, hb, hf, hlo => by
    have h1 := rgt_cons.1 hs
    have b1 := Bd.cons.1 hb
    have hl1 := hlo r (by simp)
    have key : ∃ T, (if r.2 = 9223372036854775807 then [] else oth (r.2 + 1) t) = T ∧ rgt T ∧ Bd T ∧ T.length ≤ t.length + 1 ∧ (∀ n, mem T n → r.2 + 1 ≤ n) ∧ ∀ n, I64 n → (mem T n ↔ r.2 + 1 ≤ n ∧ ¬ mem t n) := by
      by_cases he : r.2 = 9223372036854775807
      · rw [if_pos he]
        refine ⟨_, rfl, rgt_nil, Bd.nil, by simp, fun n hn => absurd hn mem_nil, fun n hn => ?_⟩
        unfold I64 at hn
        simp only [mem_nil, false_iff]
        omega
      · rw [if_neg he]
        have hi : I64 (r.2 + 1) := by unfold I64 at *; omega
        obtain ⟨t1, t2, t3, t4, t5⟩ := oth_ok t (r.2 + 1) h1.2.2 b1.2 hi (fun s hs => .inr (h1.2.1 s hs))
        exact ⟨_, rfl, t1, t2, t5, t3, t4⟩
    obtain ⟨T, hT, t1, t2, t3, t4, t5⟩ := key
    simp only [oth]
    rw [hT]
    by_cases hc : f < r.1
    · rw [if_pos hc, List.singleton_append]
      refine ⟨rgt_cons.2 ⟨by simp only; omega, fun s hs => ?_, t1⟩, Bd.cons.2 ⟨?_, t2⟩, fun n hn => ?_, fun n hn => ?_, by simp; omega⟩
      · have := t4 s.1 ⟨s, hs, Int.le_refl _, t1.2 s hs⟩
        have := h1.1
        simp only
        omega
      · unfold I64 at *
        simp only
        omega
      · have := h1.1
        rcases mem_cons.1 hn with h | h
        · exact h.1
        · have := t4 n h; omega
      · have := h1.1
        rw [mem_cons, mem_cons, t5 n hn]
        simp only
        constructor
        · rintro (h | ⟨h, h'⟩)
          · refine ⟨h.1, ?_⟩
            rintro (h2 | h2)
            · omega
            · have := hs.gap h2; omega
          · refine ⟨by omega, ?_⟩
            rintro (h2 | h2)
            · omega
            · exact h' h2
        · rintro ⟨h, h'⟩
          by_cases h3 : n < r.1
          · exact .inl ⟨h, by omega⟩
          · refine .inr ⟨?_, fun h4 => h' (.inr h4)⟩
            have : ¬ (r.1 ≤ n ∧ n ≤ r.2) := fun h4 => h' (.inl h4)
            omega
    · rw [if_neg hc, List.nil_append]
      have hf2 : f = -9223372036854775808 ∧ r.1 = f := by unfold I64 at *; omega
      have := h1.1
      refine ⟨t1, t2, fun n hn => by have := t4 n hn; omega, fun n hn => ?_, by simp; omega⟩
      rw [mem_cons, t5 n hn]
      constructor
      · rintro ⟨h, h'⟩
        refine ⟨by omega, ?_⟩
        rintro (h2 | h2)
        · omega
        · exact h' h2
      · rintro ⟨h, h'⟩
        refine ⟨?_, fun h4 => h' (.inr h4)⟩
        have : ¬ (r.1 ≤ n ∧ n ≤ r.2) := fun h4 => h' (.inl h4)
        omega
end Go.Proofs.Ytfnpjdglfaaegaa
