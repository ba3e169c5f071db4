/-
  Tokens: a slice of octets that came in, and its pieces.
-/
import Derived.Test.YthcodmcfkmochaaDoorTkP
import Derived.Laws.Slices
namespace Go.Proofs.YthcodmcfkmochaaDoor
open Go.RowKit
set_option linter.unusedVariables false
set_option linter.unusedSimpArgs false
set_option maxRecDepth 100000

/-- a slice of integers that came in -/
def IsRow (k : IntKind) (w : World) (a : Option Addr) (len cap : Nat) (zs : List Int) : Prop :=
  (a = none ∧ len = 0 ∧ cap = 0 ∧ zs = []) ∨
  ∃ x, a = some x ∧ len ≤ cap ∧ cap ≤ maxLen ∧ zs.length = cap ∧ (∀ i, i < zs.length → w.cell? (x.add i) = some (.int k (zs.getD i 0))) ∧ ∀ n ∈ zs, (Lit.int k n).wf = true
theorem sl_of_isRow {w : World} {a : Option Addr} {len cap : Nat} {zs : List Int} (h : IsRow .u8 w a len cap zs) : ∃ l, Sl w (.slice a len cap) l ∧ l.length = len ∧ len ≤ cap ∧ ∀ x ∈ l, x < 256 := by
  rcases h with ⟨rfl, rfl, rfl, rfl⟩ | ⟨x, rfl, hl, hm, hz, hc, hw⟩
  · exact ⟨[], .inr ⟨rfl, _, _, rfl⟩, rfl, Nat.le_refl _, fun _ h => by cases h⟩
  · by_cases h0 : len = 0
    · subst h0
      exact ⟨[], .inr ⟨rfl, _, _, rfl⟩, rfl, Nat.zero_le _, fun _ h => by cases h⟩
    · have hx := hc 0 (by omega)
      obtain ⟨g, o, sp⟩ := x
      have hs : sp = none := by
        simp only [Addr.add, if_true] at hx
        unfold World.cell? at hx
        split at hx
        · simp at hx
          cases sp with
          | none => rfl
          | some _ => simp at hx
        · cases hx
      subst hs
      have hr : ∀ n ∈ zs, 0 ≤ n ∧ n < 256 := by
        intro n hn
        have := hw n hn
        simp [Lit.wf, IntKind.min, IntKind.max, IntKind.signed, IntKind.bits] at this
        omega
      refine ⟨(zs.take len).map Int.toNat, .inl ⟨g, o, cap, by simp; omega, fun i hi => ?_⟩, by simp; omega, hl, fun y hy => ?_⟩
      · have hi1 : i < len := by simp at hi; omega
        have := hc i (by omega)
        rw [Addr.add_mid] at this
        rw [this]
        have hi2 : i < zs.length := by omega
        have hr2 := hr zs[i] (List.getElem_mem hi2)
        have e1 : ((zs.take len).map Int.toNat).getD i 0 = zs[i].toNat := by
          rw [List.getD_eq_getElem?_getD, List.getElem?_map, List.getElem?_take, if_pos hi1, List.getElem?_eq_getElem hi2]; rfl
        have e2 : zs.getD i 0 = zs[i] := by rw [List.getD_eq_getElem?_getD, List.getElem?_eq_getElem hi2]; rfl
        rw [e1, e2]
        congr 2
        omega
      · obtain ⟨n, hn, rfl⟩ := List.mem_map.1 hy
        have := hr n (List.mem_of_mem_take hn)
        omega
theorem bstr_sub (l : List Nat) (hl : ∀ x ∈ l, x < 256) (a e : Nat) : bstr (cut l a e) = sub (bstr l) a e := by
  apply cods_inj
  rw [cods_sub, cods_bstr l hl, cods_bstr]
  intro x hx
  exact hl x (List.mem_of_mem_take (List.mem_of_mem_drop hx))
/-- a piece of a text, as a string -/
theorem conv_sub (w : World) (g o n cap : Nat) (l : List Nat) (hn : l.length = n) (hd : ∀ i, i < n → w.cell? ⟨g, o + i, none⟩ = some (.int .u8 (l.getD i 0 : Nat))) (hl : ∀ x ∈ l, x < 256) (a k : Nat) (hk : a + k ≤ n) (hk0 : 0 < k) (hc : n ≤ cap) (c2 : Nat) :
    (convert 24 9 (.slice (some ⟨g, o + a, none⟩) k c2)).run Tryd.prog w = .ok (.string (sub (bstr l) a (a + k))) w := by
  subst hn
  have h := conv_to w (.slice (some ⟨g, o + a, none⟩) k c2) (cut l a (a + k)) (.inl ⟨g, o + a, c2, ?_, fun i hi => ?_⟩) 9 Tryd.underlying9
  · rw [bstr_sub l hl] at h
    exact h
  · rw [cut_length hk]
    congr 1
    omega
  · rw [cut_length hk] at hi
    rw [Nat.add_assoc, hd (a + i) (by omega), cut_at (show a + i < a + k by omega)]
    rfl
/-- the loop of TokenOrder, at its head: the place behind the token before -/
def RelT (w : World) (L : List Tk) (lv iv : Value) (wr : World) : Prop := ∃ (la : Int) (i : Nat), i ≤ L.length ∧ lv = .int .i64 la ∧ iv = .int .i64 (i : Nat) ∧ ((i : Int) ≤ la ∧ la ≤ 3000 ∧ ∀ t, L[i]? = some t → la ≤ t.a) ∧ Below w.heap.size w wr
theorem tcells_at0 {L : List Tk} {i : Nat} {t : Tk} (h : L[i]? = some t) : (tcells L)[4 * i]? = some (.int .i64 (t.k : Nat)) ∧ (tcells L)[4 * i + 1]? = some (.string t.t) ∧ (tcells L)[4 * i + 3]? = some (.int .i64 (t.a : Nat)) := by
  induction L generalizing i with
  | nil => cases h
  | cons u r ih =>
    have e : tcells (u :: r) = [.int .i64 (u.k : Nat), .string u.t, .int .i64 u.n, .int .i64 (u.a : Nat)] ++ tcells r := rfl
    rw [e]
    cases i with
    | zero =>
      obtain rfl : u = t := Option.some.inj h
      exact ⟨rfl, rfl, rfl⟩
    | succ j =>
      have h2 := ih (i := j) h
      refine ⟨?_, ?_, ?_⟩
      · rw [List.getElem?_append_right (by simp; omega)]; exact h2.1
      · rw [List.getElem?_append_right (by simp; omega)]; exact h2.2.1
      · rw [List.getElem?_append_right (by simp; omega)]; exact h2.2.2
theorem tcells_at {L : List Tk} {i : Nat} {t : Tk} (h : L[i]? = some t) : (tcells L)[i * 4]? = some (.int .i64 (t.k : Nat)) ∧ (tcells L)[i * 4 + 1]? = some (.string t.t) ∧ (tcells L)[i * 4 + 3]? = some (.int .i64 (t.a : Nat)) := by
  have h2 := tcells_at0 h
  rw [Nat.mul_comm 4 i] at h2
  exact h2
end Go.Proofs.YthcodmcfkmochaaDoor
