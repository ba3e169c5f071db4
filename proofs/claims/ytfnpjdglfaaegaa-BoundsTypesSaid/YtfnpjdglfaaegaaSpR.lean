/-
  The document's answer for sets, without the program: a set is cut at all ends, and each piece asked.
-/
import Derived.Test.YtfnpjdglfaaegaaSpM
namespace Go.Proofs.Ytfnpjdglfaaegaa
set_option linter.unusedVariables false
set_option linter.unusedSimpArgs false
set_option maxRecDepth 100000

def Srt (L : List Int) : Prop := L.Pairwise (· < ·)
def Bi (L : List Int) : Prop := ∀ x ∈ L, I64 x
/-- the number n at its place among l -/
structure Pl (l : List Int) (n : Int) (l' : List Int) : Prop where
  srt : Srt l'
  mem : ∀ x, x ∈ l' ↔ x = n ∨ x ∈ l
  len : l'.length ≤ l.length + 1
theorem Pl.here {A B : List Int} {n y : Int} (hs : Srt (A ++ y :: B)) (he : y = n) : Pl (A ++ y :: B) n (A ++ y :: B) :=
  ⟨hs, fun x => ⟨.inr, fun h => h.elim (fun e => by subst e; subst he; simp) id⟩, by simp⟩
theorem Pl.new {A B : List Int} {n : Int} (hs : Srt (A ++ B)) (hA : ∀ x ∈ A, x < n) (hB : ∀ x ∈ B.head?, n < x) : Pl (A ++ B) n (A ++ [n] ++ B) := by
  unfold Srt at hs
  rw [List.pairwise_append] at hs
  obtain ⟨h1, h2, h3⟩ := hs
  have hB2 : ∀ x ∈ B, n < x := by
    intro x hx
    cases B with
    | nil => simp at hx
    | cons y r =>
      have := hB y (by simp)
      rcases List.mem_cons.1 hx with rfl | hx
      · exact this
      · have := (List.pairwise_cons.1 h2).1 x hx
        omega
  refine ⟨?_, fun x => by simp; constructor <;> (intro h; rcases h with h | h | h <;> simp [h]), by simp; omega⟩
  unfold Srt
  rw [List.append_assoc, List.pairwise_append]
  refine ⟨h1, ?_, fun x hx y hy => ?_⟩
  · rw [List.singleton_append, List.pairwise_cons]
    exact ⟨hB2, h2⟩
  · rcases List.mem_cons.1 hy with rfl | hy
    · exact hA x hx
    · exact h3 x hx y hy

/-- all ends of s are among L -/
def Cuts (L : List Int) (s : List Rg) : Prop := ∀ r ∈ s, r.1 ≤ r.2 → r.1 ∈ L ∧ (r.2 < 9223372036854775807 → r.2 + 1 ∈ L)
def Cst (L : List Int) (sel : Int → Bool) : Prop := ∀ m n, I64 m → I64 n → m ≤ n → (∀ x ∈ L, ¬ (m < x ∧ x ≤ n)) → sel m = sel n
theorem Cuts.cst {L : List Int} {s : List Rg} (h : Cuts L s) (hb : Bd s) : Cst L (hasB s) := by
  intro m n hm hn hle hx
  rw [Bool.eq_iff_iff, hasB_iff, hasB_iff]
  unfold I64 at hm hn
  constructor
  · rintro ⟨r, hr, h1, h2⟩
    refine ⟨r, hr, by omega, ?_⟩
    obtain ⟨_, h3⟩ := h r hr (by omega)
    rcases Int.lt_or_le r.2 n with h4 | h4
    · exact absurd ⟨by omega, by omega⟩ (hx _ (h3 (by omega)))
    · exact h4
  · rintro ⟨r, hr, h1, h2⟩
    refine ⟨r, hr, ?_, by omega⟩
    obtain ⟨h3, _⟩ := h r hr (by omega)
    rcases Int.lt_or_le m r.1 with h4 | h4
    · exact absurd ⟨h4, h1⟩ (hx _ h3)
    · exact h4
def selOp (a b : List Rg) (op : Int) (n : Int) : Bool :=
  if op = 0 then hasB a n || hasB b n else if op = 1 then hasB a n && hasB b n else hasB a n && !hasB b n
theorem selOp_cst {L : List Int} {a b : List Rg} (ha : Cst L (hasB a)) (hb : Cst L (hasB b)) (op : Int) : Cst L (selOp a b op) := by
  intro m n hm hn hle hx
  unfold selOp
  rw [ha m n hm hn hle hx, hb m n hm hn hle hx]

def nxt (L : List Int) (i : Nat) : Int := L.getD i 9223372036854775808
theorem nxt_lt {L : List Int} {i : Nat} (h : i < L.length) : nxt L i = L[i] := by simp [nxt, h]
theorem nxt_end {L : List Int} {i : Nat} (h : ¬ i < L.length) : nxt L i = 9223372036854775808 := by simp [nxt, Nat.le_of_not_lt h]
theorem nxt_succ {L : List Int} {i : Nat} (hs : Srt L) (hb : Bi L) (h : i < L.length) : nxt L i < nxt L (i + 1) := by
  rw [nxt_lt h]
  by_cases h2 : i + 1 < L.length
  · rw [nxt_lt h2]
    exact (List.pairwise_iff_getElem.1 hs) i (i + 1) h h2 (by omega)
  · rw [nxt_end h2]
    have := hb L[i] (List.getElem_mem h)
    unfold I64 at this
    omega
theorem nxt_I64 {L : List Int} {i : Nat} (hb : Bi L) (h : i < L.length) : I64 (nxt L i) := by
  rw [nxt_lt h]
  exact hb _ (List.getElem_mem h)
theorem nxt_hi {L : List Int} (hs : Srt L) (hb : Bi L) {i : Nat} (h : i < L.length) : I64 (nxt L (i + 1) - 1) := by
  have h1 := nxt_succ hs hb h
  have h2 := nxt_I64 hb h
  by_cases h3 : i + 1 < L.length
  · have h4 := nxt_I64 hb h3
    unfold I64 at *
    omega
  · rw [nxt_end h3]
    unfold I64
    omega
/-- no cut lies within a piece -/
theorem nxt_none {L : List Int} {i : Nat} (hs : Srt L) (h : i < L.length) : ∀ y ∈ L, ¬ (nxt L i < y ∧ y < nxt L (i + 1)) := by
  rintro y hy ⟨h1, h2⟩
  obtain ⟨j, hj, rfl⟩ := List.mem_iff_getElem.1 hy
  have hp := List.pairwise_iff_getElem.1 hs
  rw [nxt_lt h] at h1
  rcases Nat.lt_trichotomy j i with hji | rfl | hji
  · have := hp j i hj h hji
    omega
  · omega
  · rw [nxt_lt (show i + 1 < L.length by omega)] at h2
    rcases Nat.lt_or_ge (i + 1) j with h3 | h3
    · have := hp (i + 1) j (by omega) hj h3
      omega
    · obtain rfl : j = i + 1 := by omega
      omega
theorem nxt_zero {L : List Int} (hs : Srt L) (hb : Bi L) (hm : (-9223372036854775808 : Int) ∈ L) : nxt L 0 = -9223372036854775808 := by
  obtain ⟨j, hj, he⟩ := List.mem_iff_getElem.1 hm
  have h0 : 0 < L.length := by omega
  rw [nxt_lt h0]
  have h1 := hb L[0] (List.getElem_mem h0)
  unfold I64 at h1
  rcases Nat.eq_zero_or_pos j with rfl | hj0
  · exact he
  · have := (List.pairwise_iff_getElem.1 hs) 0 j h0 hj hj0
    omega

def addp (out : List Rg) (x hi : Int) : List Rg :=
  match out.getLast? with
  | none => [(x, hi)]
  | some k => if k.2 = x - 1 then out.dropLast ++ [(k.1, hi)] else out ++ [(x, hi)]
theorem addp_nil (x hi : Int) : addp [] x hi = [(x, hi)] := rfl
theorem addp_apart {i : List Rg} {k : Rg} {x hi : Int} (h : ¬ k.2 = x - 1) : addp (i ++ [k]) x hi = i ++ [k] ++ [(x, hi)] := by simp [addp, h]
theorem addp_join {i : List Rg} {k : Rg} {x hi : Int} (h : k.2 = x - 1) : addp (i ++ [k]) x hi = i ++ [(k.1, hi)] := by simp [addp, h]
structure OInv (L : List Int) (sel : Int → Bool) (i : Nat) (out : List Rg) : Prop where
  rgt : rgt out
  bd : Bd out
  tells : ∀ n, I64 n → (mem out n ↔ sel n = true ∧ n < nxt L i)
  len : out.length ≤ i
theorem OInv.start {L : List Int} {sel : Int → Bool} (hs : Srt L) (hb : Bi L) (hm : (-9223372036854775808 : Int) ∈ L) : OInv L sel 0 [] :=
  ⟨rgt_nil, Bd.nil, fun n hn => by
    rw [nxt_zero hs hb hm]
    unfold I64 at hn
    simp only [mem_nil, false_iff]
    omega, Nat.le_refl _⟩
theorem OInv.no {L : List Int} {sel : Int → Bool} {i : Nat} {out : List Rg} (h : OInv L sel i out) (hs : Srt L) (hb : Bi L) (hc : Cst L sel) (hi : i < L.length) (hsel : sel (nxt L i) = false) : OInv L sel (i + 1) out := by
  refine ⟨h.rgt, h.bd, fun n hn => ?_, by have := h.len; omega⟩
  have h1 := nxt_succ hs hb hi
  rw [h.tells n hn]
  constructor
  · rintro ⟨h2, h3⟩
    exact ⟨h2, by omega⟩
  · rintro ⟨h2, h3⟩
    refine ⟨h2, ?_⟩
    rcases Int.lt_or_le n (nxt L i) with h4 | h4
    · exact h4
    · have h5 := hc (nxt L i) n (nxt_I64 hb hi) hn h4 (fun x hx hh => nxt_none hs hi x hx ⟨hh.1, by omega⟩)
      rw [hsel, h2] at h5
      cases h5
theorem OInv.yes {L : List Int} {sel : Int → Bool} {i : Nat} {out : List Rg} (h : OInv L sel i out) (hs : Srt L) (hb : Bi L) (hc : Cst L sel) (hi : i < L.length) (hsel : sel (nxt L i) = true) : OInv L sel (i + 1) (addp out (nxt L i) (nxt L (i + 1) - 1)) := by
  have h1 := nxt_succ hs hb hi
  have hx := nxt_I64 hb hi
  have hh := nxt_hi hs hb hi
  have hl := h.len
  have hM := h.tells
  have hmem : ∀ n, I64 n → (sel n = true ∧ n < nxt L (i + 1) ↔ mem out n ∨ (nxt L i ≤ n ∧ n ≤ nxt L (i + 1) - 1)) := by
    intro n hn
    rw [h.tells n hn]
    constructor
    · rintro ⟨h2, h3⟩
      rcases Int.lt_or_le n (nxt L i) with h4 | h4
      · exact .inl ⟨h2, h4⟩
      · exact .inr ⟨h4, by omega⟩
    · rintro (⟨h2, h3⟩ | ⟨h2, h3⟩)
      · exact ⟨h2, by omega⟩
      · have h5 := hc (nxt L i) n hx hn h2 (fun x hx hh => nxt_none hs hi x hx ⟨hh.1, by omega⟩)
        rw [hsel] at h5
        exact ⟨h5.symm, by omega⟩
  generalize nxt L i = x at *
  generalize hhe : nxt L (i + 1) - 1 = y at *
  rcases snoc_cases out with rfl | ⟨a, k, rfl⟩
  · rw [addp_nil]
    refine ⟨rgt_one.2 (by simp only; omega), Bd.cons.2 ⟨⟨hx, hh⟩, Bd.nil⟩, fun n hn => ?_, by simp⟩
    rw [hmem n hn, mem_one]
    simp [mem_nil]
  · have hbk := h.bd k (by simp)
    have hk := h.rgt.2 k (by simp)
    have hkx := ((hM k.2 hbk.2).1 ⟨k, by simp, hk, Int.le_refl _⟩).2
    have hri := rgt_append.1 h.rgt
    by_cases he : k.2 = x - 1
    · rw [addp_join he]
      refine ⟨rgt_append.2 ⟨hri.1, rgt_one.2 (by simp only; omega), fun s hs t ht => ?_⟩, Bd.append.2 ⟨(Bd.append.1 h.bd).1, Bd.cons.2 ⟨⟨hbk.1, hh⟩, Bd.nil⟩⟩, fun n hn => ?_, by simp at hl ⊢; omega⟩
      · obtain rfl : t = (k.1, y) := by simpa using ht
        exact hri.2.2 s hs k (by simp)
      · rw [hmem n hn, mem_append, mem_append, mem_one, mem_one, or_assoc]
        refine or_congr Iff.rfl ?_
        simp only
        omega
    · rw [addp_apart he]
      refine ⟨rgt_snoc.2 ⟨h.rgt, by simp only; omega, by simp only; omega⟩, Bd.append.2 ⟨h.bd, Bd.cons.2 ⟨⟨hx, hh⟩, Bd.nil⟩⟩, fun n hn => ?_, by simp at hl ⊢; omega⟩
      rw [hmem n hn, mem_append, mem_one]
theorem OInv.fin {L : List Int} {sel : Int → Bool} {out : List Rg} (h : OInv L sel L.length out) : Says out (fun n => sel n = true) :=
  ⟨h.rgt, h.bd, fun n hn => by
    rw [h.tells n hn, nxt_end (Nat.lt_irrefl _)]
    unfold I64 at hn
    exact ⟨fun h => h.1, fun h => ⟨h, by omega⟩⟩⟩
end Go.Proofs.Ytfnpjdglfaaegaa
