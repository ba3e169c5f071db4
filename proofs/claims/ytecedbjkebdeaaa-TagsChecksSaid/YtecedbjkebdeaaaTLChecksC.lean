/-
  Proved: the statement TagsChecks (whether all lies apart that must, among any entries, is what the document says), for every input; no further condition. Ahead of it what its walk rests on.
-/
import Derived.Test.YtecedbjkebdeaaaTgJ
import Derived.Test.YtecedbjkebdeaaaTgC
import Derived.Laws.AppendOwnNone
import Derived.Test.YtecedbjkebdeaaaTgOf
import Derived.Deep.QuietTactic
import Derived.Test.YtecedbjkebdeaaaTgY3
import Derived.Deep.RegionLaw
import Derived.Deep.RegionHeld3
import Derived.Test.YtecedbjkebdeaaaTgFw
import Derived.Test.YtecedbjkebdeaaaTgH
import Derived.BigQuiet
import Derived.Test.YtecedbjkebdeaaaShO
import Derived.Test.YtecedbjkebdeaaaTgX
import Derived.Test.YtecedbjkebdeaaaTgD
import Derived.Test.YtecedbjkebdeaaaTgK
import Derived.Test.YtecedbjkebdeaaaRows
import Derived.OpenShut
import Derived.Test.YtecedbjkebdeaaaTgAw
import Derived.ProofKit
import Derived.ShutString
import Derived.ChangeOld
/-
  Tags: the document's walk in plain words: numbers that rise; what a walk that enters no entry twice has told: no walk of a program here.
-/
namespace Go.Proofs.Ytecedbjkebdeaaa
open Go.RowKit
set_option linter.unusedVariables false
set_option linter.unusedSimpArgs false
set_option maxRecDepth 100000

/-- a number among numbers that rise -/
def plc : List Int → Int → List Int
  | [], n => [n]
  | x :: xs, n => if x < n then x :: plc xs n else if x = n then x :: xs else n :: x :: xs
theorem plc_mem {n y : Int} : ∀ {l : List Int}, y ∈ plc l n ↔ y = n ∨ y ∈ l
  | [] => by simp [plc]
  | x :: xs => by
    unfold plc
    split
    · rw [List.mem_cons, plc_mem (l := xs), List.mem_cons]
      constructor
      · rintro (h | h | h)
        · exact .inr (.inl h)
        · exact .inl h
        · exact .inr (.inr h)
      · rintro (h | h | h)
        · exact .inr (.inl h)
        · exact .inl h
        · exact .inr (.inr h)
    · split
      · next h =>
        subst h
        simp
      · simp
theorem plc_sorted {n : Int} : ∀ {l : List Int}, l.Pairwise (fun x y => x < y) → (plc l n).Pairwise (fun x y => x < y)
  | [], _ => List.pairwise_singleton _ _
  | x :: xs, h => by
    rw [List.pairwise_cons] at h
    unfold plc
    split
    · next h1 =>
      rw [List.pairwise_cons]
      refine ⟨fun y hy => ?_, plc_sorted h.2⟩
      rcases plc_mem.1 hy with rfl | h2
      · exact h1
      · exact h.1 y h2
    · split
      · exact List.pairwise_cons.2 h
      · rw [List.pairwise_cons, List.pairwise_cons]
        refine ⟨fun y hy => ?_, h⟩
        rcases List.mem_cons.1 hy with rfl | h2
        · omega
        · have := h.1 y h2
          omega
theorem plc_at {n : Int} : ∀ {l : List Int} {k : Nat}, k ≤ l.length → (∀ i x, i < k → l[i]? = some x → x < n) → (∀ x, l[k]? = some x → n ≤ x) → plc l n = if l[k]? = some n then l else l.take k ++ n :: l.drop k
  | [], k, hk, _, _ => by
    obtain rfl : k = 0 := Nat.le_zero.1 hk
    rfl
  | x :: xs, 0, _, _, h2 => by
    have h := h2 x rfl
    unfold plc
    rw [if_neg (by omega)]
    by_cases e : x = n
    · rw [if_pos e, if_pos (by rw [e]; rfl)]
    · rw [if_neg e, if_neg (fun h => e (by simpa using h))]
      rfl
  | x :: xs, k + 1, hk, h1, h2 => by
    have h := h1 0 x (by omega) rfl
    have ih := plc_at (n := n) (l := xs) (k := k) (by simpa using hk) (fun i y hi hy => h1 (i + 1) y (by omega) (by simpa using hy)) (fun y hy => h2 y (by simpa using hy))
    unfold plc
    rw [if_pos h, ih, List.getElem?_cons_succ]
    split
    · rfl
    · rfl
theorem rising_len {N : Nat} : ∀ {l : List Int} {b : Nat}, l.Pairwise (fun x y => x < y) → (∀ x, x ∈ l → (b : Int) < x ∧ x ≤ ((b + N : Nat) : Int)) → l.length ≤ N := by
  induction N with
  | zero =>
    intro l b _ h
    cases l with
    | nil => exact Nat.le_refl _
    | cons x xs => have := h x List.mem_cons_self; omega
  | succ N ih =>
    intro l b hs h
    cases l with
    | nil => exact Nat.zero_le _
    | cons x xs =>
      rw [List.pairwise_cons] at hs
      have hx := h x List.mem_cons_self
      have := ih (l := xs) (b := b + 1) hs.2 (fun y hy => by
        have h1 := hs.1 y hy
        have h2 := h y (List.mem_cons_of_mem _ hy)
        omega)
      simp only [List.length_cons]
      omega
def plcs (O X : List Int) : List Int := X.foldl plc O
theorem plcs_snoc (O X : List Int) (x : Int) : plcs O (X ++ [x]) = plc (plcs O X) x := by unfold plcs; rw [List.foldl_append]; rfl
theorem plcs_mem {y : Int} : ∀ {X O : List Int}, y ∈ plcs O X ↔ y ∈ O ∨ y ∈ X
  | [], O => by simp [plcs]
  | x :: X, O => by
    show y ∈ plcs (plc O x) X ↔ _
    rw [plcs_mem, plc_mem, List.mem_cons]
    constructor
    · rintro ((h | h) | h)
      · exact .inr (.inl h)
      · exact .inl h
      · exact .inr (.inr h)
    · rintro (h | h | h)
      · exact .inl (.inr h)
      · exact .inl (.inl h)
      · exact .inr h
theorem plcs_sorted : ∀ {X O : List Int}, O.Pairwise (fun x y => x < y) → (plcs O X).Pairwise (fun x y => x < y)
  | [], O, h => h
  | x :: X, O, h => plcs_sorted (X := X) (plc_sorted h)
/-- the automatic tags of a type -/
def autos (n : Nat) : List Int := (List.range n).map fun (i : Nat) => 1000 + (i : Int)
theorem autos_mem {n : Nat} {x : Int} : x ∈ autos n ↔ ∃ i, i < n ∧ x = 1000 + ((i : Nat) : Int) := by
  unfold autos
  rw [List.mem_map]
  constructor
  · rintro ⟨i, h, rfl⟩; exact ⟨i, List.mem_range.1 h, rfl⟩
  · rintro ⟨i, h, rfl⟩; exact ⟨i, List.mem_range.2 h, rfl⟩
theorem autos_sorted : ∀ n : Nat, (autos n).Pairwise (fun x y => x < y)
  | 0 => List.Pairwise.nil
  | n + 1 => by
    have ih := autos_sorted n
    unfold autos at ih ⊢
    rw [List.range_succ, List.map_append, List.pairwise_append]
    refine ⟨ih, List.pairwise_singleton _ _, fun x hx y hy => ?_⟩
    obtain ⟨i, hi, rfl⟩ := List.mem_map.1 hx
    have := List.mem_range.1 hi
    simp only [List.map_cons, List.map_nil, List.mem_singleton] at hy
    subst hy
    omega
theorem autos_succ (n : Nat) : plc (autos n) (1000 + (n : Int)) = autos (n + 1) := by
  have hl : (autos n).length = n := by unfold autos; simp
  have h := plc_at (n := 1000 + (n : Int)) (l := autos n) (k := n) (by omega) (fun i x hi hx => by
    obtain ⟨j, hj, rfl⟩ := autos_mem.1 (List.mem_of_getElem? hx)
    omega) (fun x hx => by
    obtain ⟨hh, _⟩ := List.getElem?_eq_some_iff.1 hx
    omega)
  rw [h, List.getElem?_eq_none (by omega), if_neg (by nofun), List.take_of_length_le (by omega), List.drop_of_length_le (by omega)]
  unfold autos
  rw [List.range_succ, List.map_append]
  rfl
/-- what is told of a type: the tags of what stands among its alternatives; the entries that it names are met -/
def Cl (l : EL) (a : Bool) (t : TT) (O : List Int) (M : Nat → Bool) : Prop :=
  ∀ a' t', Alt a t a' t' → (t'.kd = 11 → ∀ p, l.fnd t'.nam = some p → M p = true) ∧ (t'.kd ≠ 11 → t'.kd ≠ 10 → ∀ x, uni t'.kd x = true → x ∈ O) ∧ (t'.kd = 10 → a' = true → ∀ i : Nat, i < t'.nal → (1000 + (i : Int)) ∈ O)
theorem Cl.mono {l : EL} {a : Bool} {t : TT} {O O' : List Int} {M M' : Nat → Bool} (h : Cl l a t O M) (hO : ∀ x, x ∈ O → x ∈ O') (hM : ∀ p, M p = true → M' p = true) : Cl l a t O' M' := fun a' t' k =>
  ⟨fun e p hp => hM p ((h a' t' k).1 e p hp), fun e1 e2 x hx => hO x ((h a' t' k).2.1 e1 e2 x hx), fun e1 e2 i hi => hO _ ((h a' t' k).2.2 e1 e2 i hi)⟩
theorem Cl.flat {l : EL} {a : Bool} {t : TT} {O : List Int} {M : Nat → Bool} (hk : t.kd ≠ 10 ∨ a = true) (h : (t.kd = 11 → ∀ p, l.fnd t.nam = some p → M p = true) ∧ (t.kd ≠ 11 → t.kd ≠ 10 → ∀ x, uni t.kd x = true → x ∈ O) ∧ (t.kd = 10 → a = true → ∀ i : Nat, i < t.nal → (1000 + (i : Int)) ∈ O)) : Cl l a t O M := by
  intro a' t' k
  cases k with
  | here => exact h
  | down h1 h2 h3 =>
    rcases hk with hk | hk
    · exact absurd h1 hk
    · cases hk
/-- a walk of a type, and what it has told -/
structure Wk (l : EL) (a : Bool) (t : TT) (M : Nat → Bool) (O : List Int) (M' : Nat → Bool) : Prop where
  tr : ∀ x, x ∈ O → Tg l a t x ∧ x ≤ 20000
  so : O.Pairwise (fun x y => x < y)
  mo : ∀ p, M p = true → M' p = true
  cl : Cl l a t O M'
  en : ∀ p, M p = false → M' p = true → Cl l (l.f p).auto (l.f p).t O M'
theorem Wk.len {l : EL} {a : Bool} {t : TT} {M : Nat → Bool} {O : List Int} {M' : Nat → Bool} (h : Wk l a t M O M') : O.length ≤ 20000 :=
  rising_len (b := 0) h.so (fun x hx => by have h1 := (h.tr x hx).1.pos.1; have h2 := (h.tr x hx).2; omega)
/-- a walk before which nothing was met tells all tags, and no other -/
theorem Wk.all {l : EL} {a : Bool} {t : TT} {M : Nat → Bool} {O : List Int} {M' : Nat → Bool} (h : Wk l a t M O M') (hM : ∀ p, M p = false) : ∀ x, x ∈ O ↔ Tg l a t x := fun x => by
  refine ⟨fun hx => (h.tr x hx).1, fun hx => ?_⟩
  have key : ∀ {b : Bool} {s : TT} {x : Int}, Tg l b s x → Cl l b s O M' → x ∈ O := by
    intro b s x hx
    induction hx with
    | leaf h1 h2 h3 => exact fun hc => (hc _ _ .here).2.1 h1 h2 _ h3
    | auto h1 h2 => exact fun hc => (hc _ _ .here).2.2 h1 rfl _ h2
    | alt h1 h2 _ ih => exact fun hc => ih (fun a' t' k => hc a' t' (.down h1 h2 k))
    | ref h1 h2 _ ih => exact fun hc => ih (h.en _ (hM _) ((hc _ _ .here).1 h1 _ h2))
  exact key hx h.cl
theorem Wk.leaf {l : EL} {a : Bool} {t : TT} (M : Nat → Bool) (h1 : t.kd ≠ 11) (h2 : t.kd ≠ 10) : Wk l a t M (if 0 < ut t.kd then [ut t.kd] else []) M where
  tr := fun x hx => by
    split at hx
    · next h =>
      rw [List.mem_singleton] at hx
      subst hx
      have hu : uni t.kd (ut t.kd) = true := by unfold uni; simp [h]
      have := (ut_univ _ h).2
      exact ⟨.leaf h1 h2 hu, by omega⟩
    · cases hx
  so := by
    split
    · exact List.pairwise_singleton _ _
    · exact List.Pairwise.nil
  mo := fun _ h => h
  cl := Cl.flat (.inl h2) ⟨fun e => absurd e h1, fun _ _ x hx => by
    have h3 := (uni_univ hx).2.2
    have h4 : 0 < ut t.kd := by have := (univ_pos (uni_univ hx).1).1; omega
    rw [if_pos h4, List.mem_singleton]
    exact h3, fun e => absurd e h2⟩
  en := fun p h3 h4 => by rw [h3] at h4; cases h4
theorem Wk.none {l : EL} {a : Bool} {t : TT} (M : Nat → Bool) (h1 : t.kd = 11) (h2 : ∀ p, l.fnd t.nam = some p → M p = true) : Wk l a t M [] M where
  tr := fun x hx => by cases hx
  so := List.Pairwise.nil
  mo := fun _ h => h
  cl := Cl.flat (.inl (by omega)) ⟨fun _ => h2, fun e => absurd h1 e, fun e => by omega⟩
  en := fun p h3 h4 => by rw [h3] at h4; cases h4
def metN (M : Nat → Bool) (p : Nat) : Nat → Bool := fun q => if q = p then true else M q
theorem Wk.ref {l : EL} {a : Bool} {t : TT} {M : Nat → Bool} {p : Nat} {O : List Int} {M' : Nat → Bool} (h1 : t.kd = 11) (h2 : l.fnd t.nam = some p) (h : Wk l (l.f p).auto (l.f p).t (metN M p) O M') : Wk l a t M O M' where
  tr := fun x hx => ⟨.ref h1 h2 (h.tr x hx).1, (h.tr x hx).2⟩
  so := h.so
  mo := fun q hq => h.mo q (by
    unfold metN
    split
    · rfl
    · exact hq)
  cl := Cl.flat (.inl (by omega)) ⟨fun _ q hq => by
    rw [h2] at hq
    cases hq
    exact h.mo p (by unfold metN; rw [if_pos rfl]), fun e => absurd h1 e, fun e => by omega⟩
  en := fun q h3 h4 => by
    by_cases e : q = p
    · rw [e]
      exact h.cl
    · exact h.en q (by unfold metN; rw [if_neg e]; exact h3) h4
theorem Wk.autos {l : EL} {t : TT} (M : Nat → Bool) (h1 : t.kd = 10) (h2 : t.nal ≤ 10000) : Wk l true t M (Proofs.Ytecedbjkebdeaaa.autos t.nal) M where
  tr := fun x hx => by
    obtain ⟨i, hi, rfl⟩ := autos_mem.1 hx
    exact ⟨.auto h1 hi, by omega⟩
  so := autos_sorted _
  mo := fun _ h => h
  cl := Cl.flat (.inr rfl) ⟨fun e => by omega, fun _ e => absurd h1 e, fun _ _ i hi => autos_mem.2 ⟨i, hi, rfl⟩⟩
  en := fun p h3 h4 => by rw [h3] at h4; cases h4
/-- some of the alternatives of a choice are walked -/
structure WkC (l : EL) (t : TT) (i : Nat) (M : Nat → Bool) (O : List Int) (M' : Nat → Bool) : Prop where
  tr : ∀ x, x ∈ O → Tg l false t x ∧ x ≤ 20000
  so : O.Pairwise (fun x y => x < y)
  mo : ∀ p, M p = true → M' p = true
  cl : ∀ j, j < i → Cl l false (t.alt j) O M'
  en : ∀ p, M p = false → M' p = true → Cl l (l.f p).auto (l.f p).t O M'
theorem WkC.start {l : EL} {t : TT} (M : Nat → Bool) : WkC l t 0 M [] M :=
  ⟨fun x hx => (by cases hx), List.Pairwise.nil, fun _ h => h, fun j hj => absurd hj (Nat.not_lt_zero j), fun p h3 h4 => by rw [h3] at h4; cases h4⟩
theorem WkC.len {l : EL} {t : TT} {i : Nat} {M : Nat → Bool} {O : List Int} {M' : Nat → Bool} (h : WkC l t i M O M') : O.length ≤ 20000 :=
  rising_len (b := 0) h.so (fun x hx => by have h1 := (h.tr x hx).1.pos.1; have h2 := (h.tr x hx).2; omega)
theorem WkC.next {l : EL} {t : TT} {i : Nat} {M M1 M2 : Nat → Bool} {O X : List Int} (h : WkC l t i M O M1) (hk : t.kd = 10) (hi : i < t.nal) (w : Wk l false (t.alt i) M1 X M2) : WkC l t (i + 1) M (plcs O X) M2 where
  tr := fun x hx => by
    rcases plcs_mem.1 hx with h1 | h1
    · exact h.tr x h1
    · exact ⟨.alt hk hi (w.tr x h1).1, (w.tr x h1).2⟩
  so := plcs_sorted h.so
  mo := fun p hp => w.mo p (h.mo p hp)
  cl := fun j hj => by
    rcases Nat.lt_or_ge j i with h1 | h1
    · exact (h.cl j h1).mono (fun x hx => plcs_mem.2 (.inl hx)) w.mo
    · obtain rfl : j = i := by omega
      exact w.cl.mono (fun x hx => plcs_mem.2 (.inr hx)) (fun _ hp => hp)
  en := fun p h3 h4 => by
    cases h5 : M1 p with
    | true => exact (h.en p h3 h5).mono (fun x hx => plcs_mem.2 (.inl hx)) w.mo
    | false => exact (w.en p h5 h4).mono (fun x hx => plcs_mem.2 (.inr hx)) (fun _ hp => hp)
theorem WkC.part {l : EL} {t : TT} {i : Nat} {M M1 M2 : Nat → Bool} {O X : List Int} (h : WkC l t i M O M1) (hk : t.kd = 10) (hi : i < t.nal) (w : Wk l false (t.alt i) M1 X M2) (k : Nat) : (plcs O (X.take k)).length ≤ 20000 :=
  rising_len (b := 0) (plcs_sorted h.so) (fun x hx => by
    rcases plcs_mem.1 hx with h1 | h1
    · have h2 := (h.tr x h1).1.pos.1; have h3 := (h.tr x h1).2; omega
    · have h4 := w.tr x (List.mem_of_mem_take h1); have h2 := h4.1.pos.1; have h3 := h4.2; omega)
theorem WkC.done {l : EL} {t : TT} {M : Nat → Bool} {O : List Int} {M' : Nat → Bool} (h : WkC l t t.nal M O M') (hk : t.kd = 10) : Wk l false t M O M' where
  tr := h.tr
  so := h.so
  mo := h.mo
  cl := fun a' t' k => by
    cases k with
    | here => exact ⟨fun e => by omega, fun _ e => absurd hk e, fun _ e => by cases e⟩
    | down h1 h2 h3 => exact h.cl _ h2 a' t' h3
  en := h.en
/-- how many entries are not met -/
def unmet (M : Nat → Bool) : Nat → Nat
  | 0 => 0
  | n + 1 => unmet M n + if M n = true then 0 else 1
theorem unmet_le (M : Nat → Bool) : ∀ n, unmet M n ≤ n
  | 0 => Nat.le_refl _
  | n + 1 => by have := unmet_le M n; unfold unmet; split <;> omega
theorem unmet_mono {M M' : Nat → Bool} (h : ∀ p, M p = true → M' p = true) : ∀ n, unmet M' n ≤ unmet M n
  | 0 => Nat.le_refl _
  | n + 1 => by
    have ih := unmet_mono h n
    unfold unmet
    by_cases e : M n = true
    · rw [if_pos e, if_pos (h n e)]
      omega
    · rw [if_neg e]
      split <;> omega
theorem unmet_set {M : Nat → Bool} {p : Nat} (hp : M p = false) : ∀ n, p < n → unmet (metN M p) n + 1 = unmet M n
  | 0, h => absurd h (Nat.not_lt_zero _)
  | n + 1, h => by
    unfold unmet
    by_cases e : n = p
    · subst e
      have h1 : ∀ k, k ≤ n → unmet (metN M n) k = unmet M k := by
        intro k
        induction k with
        | zero => intro _; rfl
        | succ k ih =>
          intro hk
          unfold unmet
          rw [ih (by omega)]
          have : metN M n k = M k := by unfold metN; rw [if_neg (by omega)]
          rw [this]
      rw [h1 n (Nat.le_refl _), hp]
      have : metN M n n = true := by unfold metN; rw [if_pos rfl]
      rw [this]
      simp
    · have ih := unmet_set hp n (by omega)
      have : metN M p n = M n := by unfold metN; rw [if_neg e]
      rw [this]
      omega
/-! what the document asks of parts -/
/-- a part of a choice, or one that may not be: what is ahead of the next must be apart from it -/
def TT.out (t : TT) (k : Nat) : Bool := t.kd == 10 || t.opt k
theorem TT.stays_out {t : TT} {k : Nat} (h : t.kd = 10 ∨ t.kd = 8) : t.stays k = t.out k := by
  unfold TT.stays TT.out
  rcases h with h | h
  · rw [if_pos h, h]; rfl
  · rw [if_neg (by omega), if_pos h, h]; rfl
end Go.Proofs.Ytecedbjkebdeaaa

/-
  An append of a slice of whatever kind, none or a row, onto an own row.
-/
namespace Go.Proofs.Ytecedbjkebdeaaa
open Go.RowKit Go.Maps Go.WideElems Go.ChangeMaps Go.MapKept Go.Shelf
set_option linter.unusedVariables false
set_option linter.unusedSimpArgs false
set_option maxRecDepth 100000

theorem wpList_append_row {ops : Array Oper} {rest : List Oper} {o : Oper} {a : Act} {w : World} {Q : Exit → Act → World → Prop} (hgd : o.guard = none) (s x : Operand) (t : TypeId)
    (ho : o.op = .call { callee := .builtin .append, args := #[s, x], argTypes := #[t, t] })
    (base : Nat) (e : TypeId) (i : TypeInfo) (z : Value) (size bytes : Nat) (ht : Try.prog.underlying t = some (.slice e)) (hi : Try.prog.info? e = some i) (hz : i.zero = some z)
    (hsize : i.size = size) (hby : i.bytes = bytes) (hzs : z.cells.size = size) (hsz : 0 < size)
    (v : Value) (n : Nat) (xs : List Value) (hs : a.eval s = v) (hown : w.ownsRow base e size v n xs)
    (ad : Option Addr) (m c : Nat) (news : List Value) (hx : a.eval x = .slice ad m c) (hl : news.length = m * size) (hn : (ad = none ∧ m = 0 ∧ c = 0) ∨ ∃ d, ad = some d ∧ ∀ j u, news[j]? = some u → w.cell? (d.add j) = some u) (h1 : ∀ u ∈ news, u.oneCell' = true)
    (h63 : n + m ≤ maxLen) (hbytes : (n + m) * bytes ≤ 140737488355328) (hbase : base ≤ w.heap.size)
    (h : ∀ v' w', w'.ownsRow base e size v' (n + m) (xs ++ news) → w.grownBy w' v.ownBlock → wpList Try.prog ops Q rest (a.put o.dst v') w') : wpList Try.prog ops Q (o :: rest) a w := by
  rcases hn with ⟨rfl, rfl, rfl⟩ | ⟨d, rfl, hc⟩
  · rw [Nat.zero_mul] at hl
    obtain rfl := List.eq_nil_of_length_eq_zero hl
    refine wpList_append_own_none hgd s x t ho base e i size ht hi v n xs hs hown hx ?_
    exact h v w (by simpa using hown) (World.grownBy.refl _ _)
  · exact wpList_append_own _ hgd s x t ho base e i z size bytes ht hi hz hsize hby hzs hsz v n xs hs hown d m c news hx hl hc h1 h63 hbytes hbase fun v' w' h2 h3 _ => h v' w' h2 h3
end Go.Proofs.Ytecedbjkebdeaaa

/-
  Tags, the document's: 'Find', 'universal', 'place', 'meet'.
-/
namespace Go.Proofs.Ytecedbjkebdeaaa
open Go.RowKit Go.Maps Go.WideElems Go.ChangeMaps Go.MapKept Go.Shelf
set_option linter.unusedVariables false
set_option linter.unusedSimpArgs false
set_option maxRecDepth 100000

/-- an own row's slice, and its cells, wherever its block stays -/
theorem own_news {w : World} {B n : Nat} {e : TypeId} {v : Value} {xs : List Value} (h : w.ownsRow B e 1 v n xs) : ∃ a c, v = .slice a n c ∧ n ≤ c ∧
    ((a = none ∧ n = 0 ∧ c = 0) ∨ ∃ g, a = some ⟨g, 0, none⟩ ∧ g < w.heap.size ∧ B ≤ g ∧ ∀ W : World, W.heap[g]? = w.heap[g]? → ∀ j u, xs[j]? = some u → W.cell? ⟨g, j, none⟩ = some u) := by
  have hlt := h.lt
  have hc := fun g (hg : v.ownBlock = some g) => h.cells hg
  rcases h.2 with ⟨rfl, rfl⟩ | ⟨g, cap, cur, rfl, hb, hg, hnc, _⟩
  · exact ⟨none, 0, rfl, Nat.le_refl _, .inl ⟨rfl, rfl, rfl⟩⟩
  · refine ⟨_, cap, rfl, hnc, .inr ⟨g, rfl, (hlt g rfl).2, hb, fun W hW j u hu => ?_⟩⟩
    have h1 := hc g rfl j u hu
    rw [Addr.add_mid, Nat.zero_add] at h1
    exact (World.cell?_of_block (w := w) (a := ⟨g, j, none⟩) hW).trans h1
theorem ints_from (a : Option Addr) (n cap h : Nat) (hn : h ≤ n) (hc : n ≤ cap) (w : World) : (Instr.slice 37 (.slice a n cap) (some (.int .i64 (h : Nat))) none none).run Try.prog w = .ok (.slice (if cap = h then a else a.map (·.add h)) (n - h) (cap - h)) w := by
  rw [run_slice_l (ht := Try.underlying37) (h0 := by omega) (h1 := by omega), show Try.prog.elem 37 = 3 from by kernel_rfl, Try.sizeOf3]
  simp [Result.andThen, sliced]
theorem ints_to (a : Option Addr) (n cap h : Nat) (hn : h ≤ n) (hc : n ≤ cap) (ha : a = none ∨ ∃ g, a = some ⟨g, 0, none⟩) (w : World) : (Instr.slice 37 (.slice a n cap) none (some (.int .i64 (h : Nat))) none).run Try.prog w = .ok (.slice a h cap) w := by
  rw [run_slice_h (ht := Try.underlying37) (h0 := by omega) (h2 := by omega), show Try.prog.elem 37 = 3 from by kernel_rfl, Try.sizeOf3]
  rcases ha with rfl | ⟨g, rfl⟩ <;> simp [Result.andThen, sliced, Addr.add_mid]
theorem below_drewN (w : World) (m : Nat) : Below w.heap.size w (w.drewN m) := ⟨rfl, rfl, rfl, Nat.le_refl _, fun _ _ => rfl⟩
def fndI (l : EL) (s : ByteArray) : Int := match l.fnd s with
  | some p => (p : Int)
  | none => -1
theorem full_eq (e : ET) (s : ByteArray) : ((e.mod ++ (⟨#[46]⟩ : ByteArray) ++ e.name).toList == s.toList) = decide (e.full = s.data.toList) := by
  rw [ByteArray.toList_eq, ByteArray.toList_eq, full_bytes]
  by_cases h : e.full = s.data.toList
  · rw [h, decide_eq_true rfl, beq_self_eq_true]
  · rw [decide_eq_false h, beq_eq_false_iff_ne.2 h]
set_option maxHeartbeats 8000000 in
theorem rFind_ok (B : Nat) (w : World) (l : EL) (s : ByteArray) (hB : B ≤ w.heap.size) (hl : EOk B w l) (hs : s.size ≤ 9223372036854775807) :
    Calls Try.prog 64 #[.slice l.a l.n l.cap, .string s] w fun e w' => e = .returned (.int .i64 (fndI l s)) ∧ ∃ m, w' = w.drewN m := by
  have HL := Lib.hid hl
  have hn := hl.n
  obtain ⟨N, hN⟩ : ∃ N, l.n = N := ⟨_, rfl⟩
  have HNN := Lib.hid hN
  rw [hN] at hn ⊢
  clear hl hN
  go_enter Try.func64, Try.ntmps64
  go_wp2_with fail
  go_loopw [5] (fun iv wr => ∃ i m : Nat, i ≤ N ∧ iv = .int .i64 (i : Nat) ∧ wr = w.drewN m ∧ ∀ p, p < i → (l.f p).full ≠ s.data.toList) (fun iv _ => N - (Lib.intOf iv).toNat)
  case atStart => exact ⟨0, 0, Nat.zero_le _, rfl, rfl, fun p hp => absurd hp (Nat.not_lt_zero p)⟩
  case round =>
  obtain ⟨i, m, hi, rfl, rfl, hno⟩ := hrel
  have HNO := Lib.hid hno
  clear hno
  by_cases hlt : i < N
  · have q4 : decide ((i : Int) < (N : Int)) = true := decide_eq_true (by omega)
    have q4n : decide (i < N) = true := decide_eq_true hlt
    have q5 : IntKind.i64.wrap ((i : Int) + 1) = ((i + 1 : Nat) : Int) := wrap_succ hlt (by omega)
    have hil : i < l.n := by rw [HNN.out]; exact hlt
    obtain ⟨gx, ox, hix, hgx, hrd⟩ := eRow_read HL.out.el hil
    rw [HNN.out] at hix
    have hr := hrd w rfl
    have k0 : w.cell? ⟨gx, ox, none⟩ = some (.string (l.f i).mod) := hr 0 _ rfl
    have k1 : w.cell? ⟨gx, ox + 1, none⟩ = some (.string (l.f i).name) := hr 1 _ rfl
    have hz := HL.out.sz i hil
    have hfe := full_eq (l.f i) s
    obtain ⟨fb, hfb⟩ : ∃ fb, decide ((l.f i).full = s.data.toList) = fb := ⟨_, rfl⟩
    rw [hfb] at hfe
    have HFB := Lib.hid hfb
    obtain ⟨em, hem⟩ : ∃ y, (l.f i).mod = y := ⟨_, rfl⟩
    obtain ⟨en, hen⟩ : ∃ y, (l.f i).name = y := ⟨_, rfl⟩
    rw [hem] at k0 hz hfe
    rw [hen] at k1 hz hfe
    have z1 : ¬ 9223372036854775807 < em.size + 1 := by omega
    have z2 : ¬ 9223372036854775807 < em.size + 1 + en.size := by omega
    clear hrd hr hem hen hz hfb hgx
    cases fb with
    | false =>
      go_wp2_with fail
      go_quiet (fail)
      go_wp2_with fail
      go_roundw
      case rel => exact ⟨i + 1, _, hlt, rfl, rfl, fun p hp => by
        rcases Nat.lt_or_ge p i with h | h
        · exact HNO.out p h
        · obtain rfl : p = i := by omega
          exact of_decide_eq_false HFB.out⟩
      case measure => simp only [Lib.intOf]; omega
    | true =>
      have HF := Lib.hid (show fndI l s = (i : Int) from by
        unfold fndI
        have h1 : l.fnd s = some i := EL.fst_some (by rw [HNN.out]; exact hlt) (of_decide_eq_true HFB.out) HNO.out
        rw [h1])
      go_wp2_with fail
      go_quiet (fail)
      go_wp2_with fail
      go_ret
      exact ⟨by rw [HF.out]; rfl, _, World.drewN_drewN _ _ _⟩
  · have q4 : decide ((i : Int) < (N : Int)) = false := decide_eq_false (by omega)
    have q4n : decide (i < N) = false := decide_eq_false hlt
    have HF := Lib.hid (show fndI l s = -1 from by
      unfold fndI
      have h1 : l.fnd s = none := EL.fst_none.2 (fun p hp => HNO.out p (by have := HNN.out; omega))
      rw [h1])
    go_wp2_with fail
    go_ret
    exact ⟨by rw [HF.out]; rfl, _, rfl⟩
set_option maxHeartbeats 8000000 in
theorem univ_ok (w : World) (k : Int) (hk : I64 k) :
    Calls Try.prog 65 #[.int .i64 k] w fun e w' => e = .returned (.int .i64 (ut k)) ∧ Below w.heap.size w w' := by
  have HB := Lib.hid (fun o => (Below.refl w.heap.size w).alloc (Nat.le_refl _) o)
  by_cases h0 : k < 0
  · have q0 : decide (k < 0) = true := decide_eq_true h0
    have HU := Lib.hid (show ut k = 0 from by unfold ut; repeat' split <;> omega)
    go_enter Try.func65, Try.ntmps65
    go_wp2_with fail
    go_ret
    exact ⟨by rw [HU.out]; rfl, HB.out _⟩
  have q0 : decide (k < 0) = false := decide_eq_false h0
  by_cases h9 : 10 ≤ k
  · have q1 : decide (10 ≤ k) = true := decide_eq_true h9
    have HU := Lib.hid (show ut k = 0 from by unfold ut; repeat' split <;> omega)
    go_enter Try.func65, Try.ntmps65
    go_wp2_with fail
    go_ret
    exact ⟨by rw [HU.out]; rfl, HB.out _⟩
  rcases (by omega : k = 0 ∨ k = 1 ∨ k = 2 ∨ k = 3 ∨ k = 4 ∨ k = 5 ∨ k = 6 ∨ k = 7 ∨ k = 8 ∨ k = 9) with rfl | rfl | rfl | rfl | rfl | rfl | rfl | rfl | rfl | rfl
  all_goals
    clear q0 h0 h9 hk
    go_enter Try.func65, Try.ntmps65
    go_wp2_with fail
    go_ret
    exact ⟨rfl, HB.out _⟩
/-- an own row of numbers, to be read and appended -/
def NewsOf (w : World) (n : Nat) (xs : List Int) (a : Option Addr) (c : Nat) : Prop :=
  xs.length = n ∧ n ≤ c ∧ ((a = none ∧ n = 0 ∧ c = 0) ∨ ∃ g, a = some ⟨g, 0, none⟩ ∧ g < w.heap.size ∧ ∀ W : World, W.heap[g]? = w.heap[g]? → ∀ j u, (xs.map (Value.int .i64))[j]? = some u → W.cell? ⟨g, j, none⟩ = some u)
theorem place_news1 {w : World} {n : Nat} {xs : List Int} {a : Option Addr} {c k : Nat} (h : NewsOf w n xs a c) (hk : k ≤ n) : (a = none ∧ k = 0 ∧ c = 0) ∨ ∃ d, a = some d ∧ ∀ j u, ((xs.take k).map (Value.int .i64))[j]? = some u → w.cell? (d.add j) = some u := by
  obtain ⟨hl, hnc, h⟩ := h
  rcases h with ⟨h1, h2, h3⟩ | ⟨g, rfl, hg, hc⟩
  · exact .inl ⟨h1, by omega, h3⟩
  · refine .inr ⟨_, rfl, fun j u hu => ?_⟩
    rw [Addr.add_mid, Nat.zero_add]
    refine hc w rfl j u ?_
    rw [List.map_take] at hu
    obtain ⟨h1, h2⟩ := List.getElem?_eq_some_iff.1 hu
    rw [List.getElem_take] at h2
    rw [List.length_take] at h1
    exact List.getElem?_eq_some_iff.2 ⟨by omega, h2⟩
theorem place_news2 {w : World} {n : Nat} {xs : List Int} {a ad : Option Addr} {c k m d : Nat} (h : NewsOf w n xs a c) (hk : k ≤ n) (had : (if c = k then a else a.map (·.add k)) = ad) (hm : n - k = m) (hd : c - k = d) : ∀ W : World, Below w.heap.size w W → (ad = none ∧ m = 0 ∧ d = 0) ∨ ∃ b, ad = some b ∧ ∀ j u, ((xs.drop k).map (Value.int .i64))[j]? = some u → W.cell? (b.add j) = some u := fun W hb => by
  obtain ⟨hl, hnc, h⟩ := h
  have h5 : ∀ j, ((xs.drop k).map (Value.int .i64))[j]? = (xs.map (Value.int .i64))[k + j]? := fun j => by rw [List.map_drop, List.getElem?_drop]
  rcases h with ⟨rfl, h2, h3⟩ | ⟨g, rfl, hg, hc⟩
  · refine .inl ⟨?_, by omega, by omega⟩
    rw [← had]
    split <;> rfl
  · by_cases e : c = k
    · rw [if_pos e] at had
      subst had
      refine .inr ⟨_, rfl, fun j u hu => ?_⟩
      rw [h5, List.getElem?_eq_none (by rw [List.length_map]; omega)] at hu
      cases hu
    · rw [if_neg e] at had
      subst had
      refine .inr ⟨_, rfl, fun j u hu => ?_⟩
      rw [h5] at hu
      have h6 := hc W (hb.block g hg) (k + j) u hu
      simpa [Addr.add_mid] using h6
theorem ints_one (xs : List Int) : ∀ u ∈ xs.map (Value.int .i64), u.oneCell' = true := by
  intro u hu
  obtain ⟨x, _, rfl⟩ := List.mem_map.1 hu
  rfl
theorem place_done {w W : World} {B n k m : Nat} {xs : List Int} {z : Int} {v : Value} (hp : plc xs z = xs.take k ++ z :: xs.drop k) (hl : xs.length = n) (hk : k ≤ n) (hm : k + 1 + m = n + 1) (hB : B ≤ w.heap.size)
    (h : W.ownsRow w.heap.size 3 1 v (0 + k + 1 + m) ([] ++ (xs.take k).map (Value.int .i64) ++ [.int .i64 z] ++ (xs.drop k).map (Value.int .i64))) : W.ownsRow B 3 1 v (plc xs z).length ((plc xs z).map (Value.int .i64)) := by
  have e1 : (plc xs z).length = 0 + k + 1 + m := by rw [hp]; simp; omega
  have e2 : (plc xs z).map (Value.int .i64) = [] ++ (xs.take k).map (Value.int .i64) ++ [.int .i64 z] ++ (xs.drop k).map (Value.int .i64) := by rw [hp]; simp
  rw [e1, e2]
  exact ownsRow_base_a h hB
set_option maxHeartbeats 8000000 in
theorem place_ok (B : Nat) (w : World) (v : Value) (xs : List Int) (z : Int) (hrow : w.ownsRow B 3 1 v xs.length (xs.map (Value.int .i64))) (hB : B ≤ w.heap.size) (hlen : xs.length ≤ 1000000) :
    Calls Try.prog 66 #[v, .int .i64 z] w fun e w' => ∃ v', e = .returned v' ∧ w'.ownsRow B 3 1 v' (plc xs z).length ((plc xs z).map (Value.int .i64)) ∧ Below w.heap.size w w' := by
  obtain ⟨i0, hi0, hz0, hz1, hz2⟩ := info_parts info_i64
  obtain ⟨a, c, rfl, hnc, hnw⟩ := own_news hrow
  obtain ⟨n, hn⟩ : ∃ n, xs.length = n := ⟨_, rfl⟩
  have HRR := Lib.hid (show w.ownsRow B 3 1 (.slice a n c) n (xs.map (Value.int .i64)) from by have h := hrow; rw [hn] at h; exact h)
  have HXL := Lib.hid hn
  have HNW := Lib.hid (show NewsOf w n xs a c from ⟨hn, by rw [← hn]; exact hnc, by
    rw [hn] at hnw
    rcases hnw with h | ⟨g, h1, h2, _, h3⟩
    · exact .inl h
    · exact .inr ⟨g, h1, h2, h3⟩⟩)
  have HIX := Lib.hid (fun i (hi : i < n) => own_read 37 3 Try.underlying37 (by kernel_rfl) Try.sizeOf3 hrow (i := i) (by rw [hn]; exact hi))
  have HBB := Lib.hid hB
  rw [hn] at hnc hlen HIX ⊢
  clear hrow hnw hn hB
  go_enter Try.func66, Try.ntmps66
  go_wp2_with fail
  go_loopw [5] (fun kv wr => ∃ k : Nat, k ≤ n ∧ kv = .int .i64 (k : Nat) ∧ w = wr ∧ ∀ i x, i < k → xs[i]? = some x → x < z) (fun kv _ => n - (Lib.intOf kv).toNat)
  case atStart => exact ⟨0, Nat.zero_le _, rfl, rfl, fun i x hi => absurd hi (Nat.not_lt_zero i)⟩
  case round =>
  obtain ⟨k, hk, rfl, hw, hall⟩ := hrel
  subst hw
  have HALL := Lib.hid hall
  clear hall
  by_cases hlt : k < n
  · have q4 : decide ((k : Int) < (n : Int)) = true := decide_eq_true (by omega)
    have q4n : decide (k < n) = true := decide_eq_true hlt
    have q5 : IntKind.i64.wrap ((k : Int) + 1) = ((k + 1 : Nat) : Int) := wrap_succ hlt (by omega)
    obtain ⟨g, cc, he, hBg, hgl, hix, hcc⟩ := HIX.out k hlt
    cases he
    obtain ⟨x, hx⟩ : ∃ x, xs[k]? = some x := ⟨_, List.getElem?_eq_getElem (by rw [HXL.out]; exact hlt)⟩
    have ck := hcc k (.int .i64 x) (by rw [List.getElem?_map, hx]; rfl)
    have HX := Lib.hid hx
    clear hcc hx
    rcases Int.lt_trichotomy x z with hxz | hxz | hxz
    · have q6 : decide (x < z) = true := decide_eq_true hxz
      have HN := Lib.hid (show ∀ i y, i < k + 1 → xs[i]? = some y → y < z from fun i y hi hy => by
        rcases Nat.lt_or_ge i k with h | h
        · exact HALL.out i y h hy
        · obtain rfl : i = k := by omega
          have h2 := HX.out
          rw [hy] at h2
          cases h2
          exact hxz)
      clear hxz
      go_wp2_with fail
      go_roundw
      case rel => exact ⟨k + 1, hlt, rfl, (by first | rfl | trivial), HN.out⟩
      case measure => simp only [Lib.intOf]; omega
    · have q6 : decide (x < z) = false := decide_eq_false (by omega)
      have q7 : (x == z) = true := beq_iff_eq.2 hxz
      have HPL := Lib.hid (show plc xs z = xs from by
        rw [plc_at (k := k) (by rw [HXL.out]; exact hk) (fun i y hi hy => HALL.out i y hi hy) (fun y hy => by have h2 := HX.out; rw [hy] at h2; cases h2; omega), if_pos (by rw [HX.out, hxz])])
      clear hxz
      go_wp2_with fail
      go_ret
      refine ⟨_, rfl, ?_, Below.refl _ _⟩
      rw [HPL.out, HXL.out]
      exact HRR.out
    · have q6 : decide (x < z) = false := decide_eq_false (by omega)
      have q7 : (x == z) = false := beq_eq_false_iff_ne.2 (by omega)
      have HXZ := Lib.hid hxz
      clear hxz
      have HPL := Lib.hid (show plc xs z = xs.take k ++ z :: xs.drop k from (by rw [plc_at (k := k) (by rw [HXL.out]; exact hk) (fun i y hi hy => HALL.out i y hi hy) (fun y hy => by have h2 := HX.out; rw [hy] at h2; cases h2; have := HXZ.out; omega), if_neg (fun h => by rw [HX.out] at h; cases h; have := HXZ.out; omega)]))
      have hto := ints_to (some ⟨g, 0, none⟩) n c k hk hnc (HNW.out.2.2.imp (fun h => h.1) (fun ⟨g, h, _⟩ => ⟨g, h⟩))
      obtain ⟨ad, had⟩ : ∃ ad : Option Addr, (if c = k then ((some ⟨g, 0, none⟩) : Option Addr) else Option.map (fun b : Addr => b.add k) (some ⟨g, 0, none⟩)) = ad := ⟨_, rfl⟩
      obtain ⟨m, hm⟩ : ∃ m, n - k = m := ⟨_, rfl⟩
      obtain ⟨d, hd⟩ : ∃ d, c - k = d := ⟨_, rfl⟩
      have hfr := ints_from (some ⟨g, 0, none⟩) n c k hk hnc
      rw [had, hm, hd] at hfr
      have HN1 := Lib.hid (place_news1 HNW.out hk)
      have HN2 := Lib.hid (place_news2 HNW.out hk had hm hd)
      have hl1 : ((xs.take k).map (Value.int .i64)).length = k * 1 := by rw [List.length_map, List.length_take, HXL.out]; omega
      have hl2 : ((xs.drop k).map (Value.int .i64)).length = m * 1 := by rw [List.length_map, List.length_drop, HXL.out]; omega
      have HL1 := Lib.hid hl1
      have HL2 := Lib.hid hl2
      have HO0 := Lib.hid (World.ownsRow_nil w w.heap.size 3 1)
      have hkm : k + 1 + m = n + 1 := by omega
      clear had hm hd hl1 hl2
      go_wp2_with (first | (at_builtin; refine wpList_append_row rfl (.tmp 34) (.tmp 37) 37 rfl w.heap.size 3 i0 (.int .i64 0) 1 8 Try.underlying37 hi0 hz0 hz1 hz2 rfl (by decide) _ 0 [] rfl HO0.out (some ⟨g, 0, none⟩) k c ((xs.take k).map (Value.int .i64)) rfl HL1.out HN1.out (ints_one _) (by unfold maxLen; omega) (by omega) (Nat.le_refl _) ?_; intro v1 w1 ho hg; have HO1 := Lib.hid ho; have HG1 := Lib.hid hg; have HB1 := Lib.hid ((Below.refl w.heap.size w).grown hg (Nat.le_refl _) (fun j hj => (by cases hj))); clear ho hg hto) | (at_builtin; refine wpList_append_row rfl (.tmp 39) (.tmp 41) 37 rfl w.heap.size 3 i0 (.int .i64 0) 1 8 Try.underlying37 hi0 hz0 hz1 hz2 rfl (by decide) v1 (0 + k) ([] ++ (xs.take k).map (Value.int .i64)) rfl (World.ownsRow.alloc HO1.out _) (some ⟨w1.heap.size, 0, none⟩) 1 1 [.int .i64 z] rfl rfl (.inr ⟨_, rfl, cell_one_new w1 (.int .i64 z) 3⟩) (by intro u hu; rw [List.mem_singleton] at hu; subst hu; rfl) (by unfold maxLen; omega) (by omega) (by have := HB1.out.size; simp; omega) ?_; intro v2 w2 ho hg; have HO2 := Lib.hid ho; have HB2 := Lib.hid ((HB1.out.alloc HB1.out.size _).grown hg (by simp; exact Nat.le_succ_of_le HB1.out.size) (fun j hj => (HO1.out.lt j hj).1)); clear ho hg) | (at_builtin; refine wpList_append_row rfl (.tmp 43) (.tmp 46) 37 rfl w.heap.size 3 i0 (.int .i64 0) 1 8 Try.underlying37 hi0 hz0 hz1 hz2 rfl (by decide) v2 (0 + k + 1) ([] ++ (xs.take k).map (Value.int .i64) ++ [.int .i64 z]) rfl HO2.out ad m d ((xs.drop k).map (Value.int .i64)) rfl HL2.out (HN2.out w2 HB2.out) (ints_one _) (by unfold maxLen; omega) (by omega) HB2.out.size ?_; intro v3 w3 ho hg; have HO3 := Lib.hid ho; have HB3 := Lib.hid (HB2.out.grown hg HB2.out.size (fun j hj => (HO2.out.lt j hj).1)); clear ho hg))
      go_ret
      exact ⟨_, rfl, place_done HPL.out HXL.out hk hkm HBB.out HO3.out, HB3.out⟩
  · have q4 : decide ((k : Int) < (n : Int)) = false := decide_eq_false (by omega)
    have q4n : decide (k < n) = false := decide_eq_false hlt
    have HPL := Lib.hid (show plc xs z = xs.take k ++ z :: xs.drop k from (by rw [plc_at (k := k) (by rw [HXL.out]; exact hk) (fun i y hi hy => HALL.out i y hi hy) (fun y hy => by rw [List.getElem?_eq_none (by rw [HXL.out]; omega)] at hy; cases hy), if_neg (fun h => by rw [List.getElem?_eq_none (by rw [HXL.out]; omega)] at h; cases h)]))
    have hto := ints_to a n c k hk hnc (HNW.out.2.2.imp (fun h => h.1) (fun ⟨g, h, _⟩ => ⟨g, h⟩))
    obtain ⟨ad, had⟩ : ∃ ad : Option Addr, (if c = k then (a : Option Addr) else Option.map (fun b : Addr => b.add k) a) = ad := ⟨_, rfl⟩
    obtain ⟨m, hm⟩ : ∃ m, n - k = m := ⟨_, rfl⟩
    obtain ⟨d, hd⟩ : ∃ d, c - k = d := ⟨_, rfl⟩
    have hfr := ints_from a n c k hk hnc
    rw [had, hm, hd] at hfr
    have HN1 := Lib.hid (place_news1 HNW.out hk)
    have HN2 := Lib.hid (place_news2 HNW.out hk had hm hd)
    have hl1 : ((xs.take k).map (Value.int .i64)).length = k * 1 := by rw [List.length_map, List.length_take, HXL.out]; omega
    have hl2 : ((xs.drop k).map (Value.int .i64)).length = m * 1 := by rw [List.length_map, List.length_drop, HXL.out]; omega
    have HL1 := Lib.hid hl1
    have HL2 := Lib.hid hl2
    have HO0 := Lib.hid (World.ownsRow_nil w w.heap.size 3 1)
    have hkm : k + 1 + m = n + 1 := by omega
    clear had hm hd hl1 hl2
    go_wp2_with (first | (at_builtin; refine wpList_append_row rfl (.tmp 34) (.tmp 37) 37 rfl w.heap.size 3 i0 (.int .i64 0) 1 8 Try.underlying37 hi0 hz0 hz1 hz2 rfl (by decide) _ 0 [] rfl HO0.out a k c ((xs.take k).map (Value.int .i64)) rfl HL1.out HN1.out (ints_one _) (by unfold maxLen; omega) (by omega) (Nat.le_refl _) ?_; intro v1 w1 ho hg; have HO1 := Lib.hid ho; have HG1 := Lib.hid hg; have HB1 := Lib.hid ((Below.refl w.heap.size w).grown hg (Nat.le_refl _) (fun j hj => (by cases hj))); clear ho hg hto) | (at_builtin; refine wpList_append_row rfl (.tmp 39) (.tmp 41) 37 rfl w.heap.size 3 i0 (.int .i64 0) 1 8 Try.underlying37 hi0 hz0 hz1 hz2 rfl (by decide) v1 (0 + k) ([] ++ (xs.take k).map (Value.int .i64)) rfl (World.ownsRow.alloc HO1.out _) (some ⟨w1.heap.size, 0, none⟩) 1 1 [.int .i64 z] rfl rfl (.inr ⟨_, rfl, cell_one_new w1 (.int .i64 z) 3⟩) (by intro u hu; rw [List.mem_singleton] at hu; subst hu; rfl) (by unfold maxLen; omega) (by omega) (by have := HB1.out.size; simp; omega) ?_; intro v2 w2 ho hg; have HO2 := Lib.hid ho; have HB2 := Lib.hid ((HB1.out.alloc HB1.out.size _).grown hg (by simp; exact Nat.le_succ_of_le HB1.out.size) (fun j hj => (HO1.out.lt j hj).1)); clear ho hg) | (at_builtin; refine wpList_append_row rfl (.tmp 43) (.tmp 46) 37 rfl w.heap.size 3 i0 (.int .i64 0) 1 8 Try.underlying37 hi0 hz0 hz1 hz2 rfl (by decide) v2 (0 + k + 1) ([] ++ (xs.take k).map (Value.int .i64) ++ [.int .i64 z]) rfl HO2.out ad m d ((xs.drop k).map (Value.int .i64)) rfl HL2.out (HN2.out w2 HB2.out) (ints_one _) (by unfold maxLen; omega) (by omega) HB2.out.size ?_; intro v3 w3 ho hg; have HO3 := Lib.hid ho; have HB3 := Lib.hid (HB2.out.grown hg HB2.out.size (fun j hj => (HO2.out.lt j hj).1)); clear ho hg))
    go_ret
    exact ⟨_, rfl, place_done HPL.out HXL.out hk hkm HBB.out HO3.out, HB3.out⟩
set_option maxHeartbeats 8000000 in
theorem meet_ok (w : World) (v1 v2 : Value) (B1 B2 : Nat) (xs ys : List Int) (h1 : w.ownsRow B1 3 1 v1 xs.length (xs.map (Value.int .i64))) (h2 : w.ownsRow B2 3 1 v2 ys.length (ys.map (Value.int .i64))) (hm1 : xs.length ≤ 1000000) (hm2 : ys.length ≤ 1000000) :
    Calls Try.prog 31 #[v1, v2] w fun e w' => (∃ b : Bool, e = .returned (.bool b) ∧ (b = true ↔ ∃ x, x ∈ xs ∧ x ∈ ys)) ∧ ∃ m, w' = w.drewN m := by
  obtain ⟨a1, c1, rfl⟩ := own_slice h1
  obtain ⟨a2, c2, rfl⟩ := own_slice h2
  obtain ⟨n1, hn1⟩ : ∃ n1, xs.length = n1 := ⟨_, rfl⟩
  obtain ⟨n2, hn2⟩ : ∃ n2, ys.length = n2 := ⟨_, rfl⟩
  have HL1 := Lib.hid hn1
  have HL2 := Lib.hid hn2
  rw [hn1] at h1 hm1 ⊢
  rw [hn2] at h2 hm2 ⊢
  have HR1 := Lib.hid (fun i (hi : i < n1) => own_read 37 3 Try.underlying37 (by kernel_rfl) Try.sizeOf3 h1 hi)
  have HR2 := Lib.hid (fun i (hi : i < n2) => own_read 37 3 Try.underlying37 (by kernel_rfl) Try.sizeOf3 h2 hi)
  clear h1 h2 hn1 hn2
  go_enter Try.func31, Try.ntmps31
  go_wp2_with fail
  go_loopw [5] (fun iv wr => ∃ i m : Nat, i ≤ n1 ∧ iv = .int .i64 (i : Nat) ∧ wr = w.drewN m ∧ ∀ x, x ∈ xs.take i → x ∉ ys) (fun iv _ => n1 - (Lib.intOf iv).toNat)
  case atStart => exact ⟨0, 0, Nat.zero_le _, rfl, rfl, fun x hx => by simp at hx⟩
  case round =>
  obtain ⟨i, m, hi, rfl, rfl, hno⟩ := hrel
  have HNO := Lib.hid hno
  clear hno
  by_cases hlt : i < n1
  · have q4 : decide ((i : Int) < (n1 : Int)) = true := decide_eq_true (by omega)
    have q4n : decide (i < n1) = true := decide_eq_true hlt
    have q5 : IntKind.i64.wrap ((i : Int) + 1) = ((i + 1 : Nat) : Int) := wrap_succ hlt (by omega)
    obtain ⟨x, hx⟩ : ∃ x, xs[i]? = some x := ⟨_, List.getElem?_eq_getElem (by rw [HL1.out]; exact hlt)⟩
    have HX := Lib.hid hx
    obtain ⟨g1, cc1, e1, _, _, hi1, hc1⟩ := HR1.out i hlt
    cases e1
    have k1 : w.cell? ⟨g1, i, none⟩ = some (.int .i64 x) := hc1 i _ (by rw [List.getElem?_map, hx]; rfl)
    clear hc1 hx
    go_wp2_with fail
    go_loopw [6] (fun kv wr => ∃ k m : Nat, k ≤ n2 ∧ kv = .int .i64 (k : Nat) ∧ wr = w.drewN m ∧ x ∉ ys.take k) (fun kv _ => n2 - (Lib.intOf kv).toNat)
    case atStart => exact ⟨0, m, Nat.zero_le _, rfl, rfl, fun h => by simp at h⟩
    case round =>
    obtain ⟨k, m, hk, rfl, rfl, hnk⟩ := hrel
    have HNK := Lib.hid hnk
    clear hnk
    by_cases hltk : k < n2
    · have q4k : decide ((k : Int) < (n2 : Int)) = true := decide_eq_true (by omega)
      have q4kn : decide (k < n2) = true := decide_eq_true hltk
      have q5k : IntKind.i64.wrap ((k : Int) + 1) = ((k + 1 : Nat) : Int) := wrap_succ hltk (by omega)
      obtain ⟨y, hy⟩ : ∃ y, ys[k]? = some y := ⟨_, List.getElem?_eq_getElem (by rw [HL2.out]; exact hltk)⟩
      have HY := Lib.hid hy
      obtain ⟨g2, cc2, e2, _, _, hi2, hc2⟩ := HR2.out k hltk
      cases e2
      have k2 : w.cell? ⟨g2, k, none⟩ = some (.int .i64 y) := hc2 k _ (by rw [List.getElem?_map, hy]; rfl)
      clear hc2 hy
      by_cases hxy : x = y
      · have q6 : (x == y) = true := beq_iff_eq.2 hxy
        have HXY := Lib.hid hxy
        clear hxy
        go_wp2_with fail
        go_quiet (fail)
        go_wp2_with fail
        go_ret
        exact ⟨⟨true, rfl, fun _ => ⟨x, List.mem_of_getElem? HX.out, by rw [HXY.out]; exact List.mem_of_getElem? HY.out⟩, fun _ => rfl⟩, _, World.drewN_drewN _ _ _⟩
      · have q6 : (x == y) = false := beq_eq_false_iff_ne.2 hxy
        have HN := Lib.hid (show x ∉ ys.take (k + 1) from by
          rw [List.take_add_one, HY.out]
          intro h
          rcases List.mem_append.1 h with h | h
          · exact HNK.out h
          · exact hxy (by simpa using h))
        clear hxy
        go_wp2_with fail
        go_quiet (fail)
        go_wp2_with fail
        go_roundw
        case rel => exact ⟨k + 1, _, hltk, rfl, rfl, HN.out⟩
        case measure => simp only [Lib.intOf]; omega
    · have q4k : decide ((k : Int) < (n2 : Int)) = false := decide_eq_false (by omega)
      have q4kn : decide (k < n2) = false := decide_eq_false hltk
      have HN := Lib.hid (show ∀ z, z ∈ xs.take (i + 1) → z ∉ ys from by
        rw [List.take_add_one, HX.out]
        intro z hz
        rcases List.mem_append.1 hz with h | h
        · exact HNO.out z h
        · have h3 := HNK.out
          rw [List.take_of_length_le (by rw [HL2.out]; omega)] at h3
          rw [show z = x by simpa using h]
          exact h3)
      go_wp2_with fail
      go_roundw
      case rel => exact ⟨i + 1, _, hlt, rfl, rfl, HN.out⟩
      case measure => simp only [Lib.intOf]; omega
  · have q4 : decide ((i : Int) < (n1 : Int)) = false := decide_eq_false (by omega)
    have q4n : decide (i < n1) = false := decide_eq_false hlt
    have HN := Lib.hid (show ¬ ∃ x, x ∈ xs ∧ x ∈ ys from by
      rintro ⟨x, h1, h2⟩
      exact HNO.out x (by rw [List.take_of_length_le (by rw [HL1.out]; omega)]; exact h1) h2)
    go_wp2_with fail
    go_ret
    exact ⟨⟨false, rfl, fun e => (by cases e), fun h => absurd h HN.out⟩, _, rfl⟩
end Go.Proofs.Ytecedbjkebdeaaa

/-
  Tags, the document's 'walk': rows of truths; an append in a region that draws its order; what a walk answers.
-/
namespace Go.Proofs.Ytecedbjkebdeaaa
open Go.RowKit Go.Maps Go.WideElems Go.ChangeMaps Go.MapKept Go.Shelf
set_option linter.unusedVariables false
set_option linter.unusedSimpArgs false
set_option maxRecDepth 100000

/-- a row of truths, to be read -/
def BRow (w : World) (v : Value) (n : Nat) (M : Nat → Bool) : Prop :=
  ∃ a c, v = .slice a n c ∧ n ≤ c ∧ ((a = none ∧ n = 0 ∧ c = 0) ∨ ∃ g, a = some ⟨g, 0, none⟩ ∧ g < w.heap.size ∧ ∀ i, i < n → w.cell? ⟨g, i, none⟩ = some (.bool (M i)))
theorem BRow.below {w w' : World} {v : Value} {n : Nat} {M : Nat → Bool} (h : BRow w v n M) (hb : Below w.heap.size w w') : BRow w' v n M := by
  obtain ⟨a, c, h1, h2, h3⟩ := h
  refine ⟨a, c, h1, h2, h3.imp id ?_⟩
  rintro ⟨g, h4, h5, h6⟩
  exact ⟨g, h4, Nat.lt_of_lt_of_le h5 hb.size, fun i hi => (hb.cell (p := ⟨g, i, none⟩) h5).trans (h6 i hi)⟩
theorem bools_index (g n c y : Nat) (hy : y < n) : ∀ w, (Instr.indexAt 39 (.slice (some ⟨g, 0, none⟩) n c) (.int .i64 (y : Nat))).run Try.prog w = .ok (.pointer (some ⟨g, y, none⟩)) w := fun w => by
  rw [run_indexAt_slice (h := by rw [show Try.prog.elem 39 = 4 from by kernel_rfl]; exact Try.underlying39), if_pos (by omega), show Try.prog.elem 39 = 4 from by kernel_rfl, Try.sizeOf4]
  simp [Result.andThen, Addr.add_mid]
theorem info_boolz : (Try.prog.info? 4).map (fun i => (i.zero, i.size, i.bytes)) = some (some (.bool false), 1, 1) := by kernel_rfl
def boolsOf (M : Nat → Bool) (n : Nat) : List Value := (List.range n).map fun i => .bool (M i)
theorem boolsOf_len (M : Nat → Bool) (n : Nat) : (boolsOf M n).length = n * 1 := by unfold boolsOf; simp
theorem boolsOf_one (M : Nat → Bool) (n : Nat) : ∀ u ∈ boolsOf M n, u.oneCell' = true := by
  intro u hu
  unfold boolsOf at hu
  obtain ⟨x, _, rfl⟩ := List.mem_map.1 hu
  rfl
theorem BRow.news {w : World} {a : Option Addr} {n c : Nat} {M : Nat → Bool} (h : BRow w (.slice a n c) n M) : ∀ W : World, Below w.heap.size w W → (a = none ∧ n = 0 ∧ c = 0) ∨ ∃ d, a = some d ∧ ∀ j u, (boolsOf M n)[j]? = some u → W.cell? (d.add j) = some u := fun W hb => by
  obtain ⟨a', c', h1, h2, h3⟩ := h
  cases h1
  refine h3.imp id ?_
  rintro ⟨g, rfl, hg, hc⟩
  refine ⟨_, rfl, fun j u hu => ?_⟩
  rw [Addr.add_mid, Nat.zero_add]
  unfold boolsOf at hu
  obtain ⟨hj, hu2⟩ := List.getElem?_eq_some_iff.1 hu
  rw [List.length_map, List.length_range] at hj
  rw [List.getElem_map, List.getElem_range] at hu2
  rw [← hu2]
  exact (hb.cell (p := ⟨g, j, none⟩) hg).trans (hc j hj)
/-- an own row of truths, one of which is set -/
theorem met_put {w : World} {base n : Nat} {v : Value} {M : Nat → Bool} {k : Nat} (h : w.ownsRow base 4 1 v n (boolsOf M n)) (hk : k < n) :
    ∃ g c, v = .slice (some ⟨g, 0, none⟩) n c ∧ base ≤ g ∧ g < w.heap.size ∧ w.frozen? ⟨g, k, none⟩ = false ∧ w.cell? ⟨g, k, none⟩ = some (.bool (M k)) ∧ BRow (w.setCell ⟨g, k, none⟩ (.bool true)) v n (metN M k) := by
  have hlt := h.lt
  rcases h.2 with ⟨_, h0⟩ | ⟨g, cap, cur, rfl, hbg, hg, hnc, _, hsz, htk⟩
  · omega
  · have hbx : Bx w g cur 4 := hg
    have hcur : ∀ i, i < n → cur[i]? = some (.bool (M i)) := fun i hi => by
      have h1 : (cur.toList.take (n * 1))[i]? = some (.bool (M i)) := by
        rw [htk]
        unfold boolsOf
        rw [List.getElem?_map, List.getElem?_range hi]
        rfl
      rw [List.getElem?_take_of_lt (by omega), Array.getElem?_toList] at h1
      exact h1
    have hb2 := bx_field hbx k (.bool true)
    refine ⟨g, cap, rfl, hbg, (hlt g rfl).2, frozen_gx hbx k, hbx.cell k (hcur k hk), _, _, rfl, hnc, .inr ⟨g, rfl, by rw [size_field]; exact (hlt g rfl).2, fun i hi => hb2.cell i ?_⟩⟩
    rw [Array.getElem?_setIfInBounds]
    by_cases e : k = i
    · subst e
      have hks : k < cur.size := (Array.getElem?_eq_some_iff.1 (hcur k hk)).1
      rw [if_pos rfl, if_pos hks]
      unfold metN
      rw [if_pos rfl]
    · rw [if_neg e, hcur i hi]
      unfold metN
      rw [if_neg (fun h => e h.symm)]
theorem step_append_row {ops : Array Oper} {o : Oper} {a : Act} {w : World} {K : Act → World → Prop} {Q : Exit → Act → World → Prop} {E : Prop} (hgd : o.guard = none) (s x : Operand) (t : TypeId)
    (ho : o.op = .call { callee := .builtin .append, args := #[s, x], argTypes := #[t, t] })
    (base : Nat) (e : TypeId) (i : TypeInfo) (z : Value) (size bytes : Nat) (ht : Try.prog.underlying t = some (.slice e)) (hi : Try.prog.info? e = some i) (hz : i.zero = some z)
    (hsize : i.size = size) (hby : i.bytes = bytes) (hzs : z.cells.size = size) (hsz : 0 < size)
    (v : Value) (n : Nat) (xs : List Value) (hs : a.eval s = v) (hown : w.ownsRow base e size v n xs)
    (ad : Option Addr) (m c : Nat) (news : List Value) (hx : a.eval x = .slice ad m c) (hl : news.length = m * size) (hn : (ad = none ∧ m = 0 ∧ c = 0) ∨ ∃ d, ad = some d ∧ ∀ j u, news[j]? = some u → w.cell? (d.add j) = some u) (h1 : ∀ u ∈ news, u.oneCell' = true)
    (h63 : n + m ≤ maxLen) (hbytes : (n + m) * bytes ≤ 140737488355328) (hbase : base ≤ w.heap.size)
    (h : ∀ v' w', w'.ownsRow base e size v' (n + m) (xs ++ news) → w.grownBy w' v.ownBlock → K (a.put o.dst v') w') :
    if Region.wanted o (yielded ops a.tmps) = true then Oper.wp Try.prog o a w K Q else E := by
  have hw : Region.wanted o (yielded ops a.tmps) = true := by simp [Region.wanted, hgd]
  rw [if_pos hw]
  rcases hn with ⟨rfl, rfl, rfl⟩ | ⟨d, rfl, hc⟩
  · rw [Nat.zero_mul] at hl
    obtain rfl := List.eq_nil_of_length_eq_zero hl
    have hrun := run_append_owned_none (P := Try.prog) (w := w) base t o.type e i size ht hi v n xs hown
    unfold Oper.wp
    simp [execOp, ho, resolve, invoke, builtin, hs, hx, hrun, Result.andThen]
    exact h v w (by simpa using hown) (World.grownBy.refl _ _)
  · exact wp_append_own w s x t ho base e i z size bytes ht hi hz hsize hby hzs hsz v n xs hs hown d m c news hx hl hc h1 h63 hbytes hbase fun v' w' h2 h3 _ => h v' w' h2 h3
/-- what a walk answers -/
def WkOut (l : EL) (a : Bool) (t : TT) (M : Nat → Bool) (w : World) (e : Ending) (w' : World) : Prop :=
  ∃ (ov mv : Value) (O : List Int) (M' : Nat → Bool), e = .returned (.tuple #[ov, mv]) ∧ w'.ownsRow w.heap.size 3 1 ov O.length (O.map (Value.int .i64)) ∧ BRow w' mv l.n M' ∧ Wk l a t M O M' ∧ Below w.heap.size w w'
def WOK (l : EL) (u s : Nat) : Prop := ∀ (t : TT) (a : Bool) (B : Nat) (w : World) (mv : Value) (M : Nat → Bool), t.sz ≤ s → unmet M l.n ≤ u → TIn B w t → B ≤ w.heap.size → EOk B w l → BRow w mv l.n M →
  Calls Try.prog 58 #[.slice l.a l.n l.cap, .bool a, .agg t.cells.toArray, mv] w fun e w' => WkOut l a t M w e w'
end Go.Proofs.Ytecedbjkebdeaaa

/-
  Tags, the document's 'walk' of a type that is named.
-/
namespace Go.Proofs.Ytecedbjkebdeaaa
open Go.RowKit Go.Maps Go.WideElems Go.ChangeMaps Go.MapKept Go.Shelf
set_option linter.unusedVariables false
set_option linter.unusedSimpArgs false
set_option maxRecDepth 100000

theorem below_set {w W : World} {B g k : Nat} {u : Value} (h : Below B w W) (hg : B ≤ g) : Below B w (W.setCell ⟨g, k, none⟩ u) :=
  ⟨h.os, h.tape, h.output, by rw [size_field]; exact h.size, fun j hj => (heap_field (by omega)).trans (h.block j hj)⟩
set_option maxHeartbeats 16000000 in
theorem walk_ref (l : EL) (t : TT) (a : Bool) (B : Nat) (w : World) (mv : Value) (M : Nat → Bool) (ht : TIn B w t) (hB : B ≤ w.heap.size) (hl : EOk B w l) (hn : l.n ≤ 1000) (hM : BRow w mv l.n M) (h11 : t.kd = 11)
    (IH : ∀ p, l.fnd t.nam = some p → M p = false → ∀ (W : World) (mv' : Value), Below w.heap.size w W → BRow W mv' l.n (metN M p) →
      Calls Try.prog 58 #[.slice l.a l.n l.cap, .bool (l.f p).auto, .agg (l.f p).t.cells.toArray, mv'] W fun e w' => WkOut l (l.f p).auto (l.f p).t (metN M p) W e w') :
    Calls Try.prog 58 #[.slice l.a l.n l.cap, .bool a, .agg t.cells.toArray, mv] w fun e w' => WkOut l a t M w e w' := by
  obtain ⟨i0, hi0, hz0, hz1, hz2⟩ := info_parts info_boolz
  obtain ⟨pa, pc, aa, ac, ea, ec, TC⟩ := ht.tcells
  have HXN := Lib.hid (Bx.new w t.cells.toArray 35)
  have c0 := HXN.out.cell 0 TC.kd
  have c1 := HXN.out.cell 1 TC.nm
  have hns := TC.ns
  have HB0 := Lib.hid (show Below w.heap.size w (w.alloc (.cells t.cells.toArray 35)) from (Below.refl w.heap.size w).alloc (Nat.le_refl _) _)
  have HM := Lib.hid hM
  have HL := Lib.hid hl
  have HIH := Lib.hid IH
  have HT := Lib.hid h11
  rw [h11] at c0
  have HFD := Lib.hid (rFind_ok B _ l t.nam (Nat.le_trans hB HB0.out.size) (hl.below (HB0.out.mono hB) (Nat.le_refl _)) (by omega))
  obtain ⟨N, hN⟩ : ∃ N, l.n = N := ⟨_, rfl⟩
  have HNN := Lib.hid hN
  obtain ⟨nm, hnm⟩ : ∃ nm, t.nam = nm := ⟨_, rfl⟩
  have HNM := Lib.hid hnm
  rw [hN] at hn HFD ⊢
  rw [hnm] at c1 HFD
  clear TC hM h11 ht IH hl hN hnm hns
  go_enter Try.func58, Try.ntmps58
  go_wp2_with fail
  obtain ⟨W0, hW0⟩ : ∃ W0, w.alloc (.cells t.cells.toArray 35) = W0 := ⟨_, rfl⟩
  rw [hW0] at c0 c1 HXN HB0 HFD ⊢
  clear hW0
  refine HFD.out.mono ?_
  rintro e w1 ⟨rfl, m, hw1⟩
  have hb1 : Below W0.heap.size W0 w1 := by rw [hw1]; exact below_drewN _ _
  have HB1 := Lib.hid (HB0.out.trans (hb1.mono HB0.out.size))
  clear hb1 hw1 HFD c0 c1
  cases hf : l.fnd nm with
  | none =>
    have hfi : fndI l nm = -1 := by unfold fndI; rw [hf]
    have HW := Lib.hid (Wk.none (l := l) (a := a) (t := t) M HT.out (fun p hp => by rw [HNM.out, hf] at hp; cases hp))
    rw [hfi]
    clear hf hfi
    go_wp2_with fail
    go_ret2
    exact ⟨_, _, [], M, rfl, World.ownsRow_nil _ _ _ _, HM.out.below HB1.out, HW.out, HB1.out⟩
  | some p =>
    have hfi : fndI l nm = (p : Int) := by unfold fndI; rw [hf]
    have hp : p < N := by have := (EL.fst_lt hf).1; have := HNN.out; omega
    have HF := Lib.hid (show l.fnd t.nam = some p by rw [HNM.out]; exact hf)
    obtain ⟨ma, mc, hmv, hnc, hcs⟩ := HM.out.below HB1.out
    subst hmv
    rcases hcs with ⟨_, h0, _⟩ | ⟨g, rfl, hg, hc⟩
    · have := HNN.out; omega
    have q0 : decide ((p : Int) < 0) = false := decide_eq_false (by omega)
    have hix := bools_index g N mc p hp
    have ck := hc p (by rw [HNN.out]; exact hp)
    obtain ⟨mp, hmp⟩ : ∃ mp, M p = mp := ⟨_, rfl⟩
    rw [hmp] at ck
    have HMP := Lib.hid hmp
    rw [hfi]
    have HNS := Lib.hid (fun W hb => BRow.news (HM.out.below HB1.out) W hb)
    rw [HNN.out] at HNS ⊢
    clear hfi hmp hc hf hnc
    cases mp with
    | true =>
      have HW := Lib.hid (Wk.none (l := l) (a := a) (t := t) M HT.out (fun q hq => by rw [HF.out] at hq; cases hq; exact HMP.out))
      go_wp2_with fail
      go_ret2
      have hm := HM.out.below HB1.out
      rw [HNN.out] at hm
      exact ⟨_, _, [], M, rfl, World.ownsRow_nil _ _ _ _, by rw [HNN.out]; exact hm, HW.out, HB1.out⟩
    | false =>
      have HO0 := Lib.hid (World.ownsRow_lit (base := w.heap.size) (e := 4) (size := 1) w1 #[] 0 HB1.out.size (by unfold maxLen; omega) (by rfl))
      have HBA := Lib.hid ((Below.refl w1.heap.size w1).alloc (Nat.le_refl _) (.cells #[] 4))
      have HBL := Lib.hid (boolsOf_len M N)
      obtain ⟨gx, ox, hxe, hgx, hrd⟩ := eRow_read HL.out.el (i := p) (by rw [HNN.out]; exact hp)
      rw [HNN.out] at hxe
      have HRD := Lib.hid hrd
      have hein := HL.out.el.2 p (by rw [HNN.out]; exact hp)
      obtain ⟨u0, u1, u2, u3, u4, u5, u6, u7, u8, u9, u10, u11, u12, u13, u14, hus⟩ := list15 (l.f p).t.cells (one_tcells hein.2.2).1
      obtain ⟨au, hau⟩ : ∃ au, (l.f p).auto = au := ⟨_, rfl⟩
      have hih := HIH.out p HF.out HMP.out
      rw [hus, hau, HNN.out] at hih
      have HIP := Lib.hid hih
      have HSS := Lib.hid (show ∀ w', Below w.heap.size w w' → (w'.cell? ⟨gx, ox + 2, none⟩ = some (.bool au) ∧ w'.cell? ⟨gx, ox + 3, none⟩ = some u0 ∧ w'.cell? ⟨gx, ox + 4, none⟩ = some u1 ∧ w'.cell? ⟨gx, ox + 5, none⟩ = some u2 ∧ w'.cell? ⟨gx, ox + 6, none⟩ = some u3 ∧ w'.cell? ⟨gx, ox + 7, none⟩ = some u4 ∧ w'.cell? ⟨gx, ox + 8, none⟩ = some u5 ∧ w'.cell? ⟨gx, ox + 9, none⟩ = some u6 ∧ w'.cell? ⟨gx, ox + 10, none⟩ = some u7 ∧ w'.cell? ⟨gx, ox + 11, none⟩ = some u8 ∧ w'.cell? ⟨gx, ox + 12, none⟩ = some u9 ∧ w'.cell? ⟨gx, ox + 13, none⟩ = some u10 ∧ w'.cell? ⟨gx, ox + 14, none⟩ = some u11 ∧ w'.cell? ⟨gx, ox + 15, none⟩ = some u12 ∧ w'.cell? ⟨gx, ox + 16, none⟩ = some u13 ∧ w'.cell? ⟨gx, ox + 17, none⟩ = some u14) from fun w' hb => by
        have h := HRD.out w' (hb.block gx (by omega))
        have hcs : (l.f p).cells = [.string (l.f p).mod, .string (l.f p).name, .bool au, u0, u1, u2, u3, u4, u5, u6, u7, u8, u9, u10, u11, u12, u13, u14] := by
          unfold ET.cells
          rw [hus, hau]
          rfl
        rw [hcs] at h
        exact ⟨h 2 _ rfl, h 3 _ rfl, h 4 _ rfl, h 5 _ rfl, h 6 _ rfl, h 7 _ rfl, h 8 _ rfl, h 9 _ rfl, h 10 _ rfl, h 11 _ rfl, h 12 _ rfl, h 13 _ rfl, h 14 _ rfl, h 15 _ rfl, h 16 _ rfl, h 17 _ rfl⟩)
      have HAU := Lib.hid hau
      clear hrd hein hus hau hih
      go_wp2_with (at_builtin; refine wpList_append_row rfl (.tmp 34) (.tmp 35) 39 rfl w.heap.size 4 i0 (.bool false) 1 1 Try.underlying39 hi0 hz0 hz1 hz2 rfl (by decide) _ 0 [] rfl HO0.out (some ⟨g, 0, none⟩) N mc (boolsOf M N) rfl HBL.out (HNS.out _ HBA.out) (boolsOf_one M N) (by unfold maxLen; omega) (by omega) (by have := HB1.out.size; simp; omega) ?_; intro v2 w2 ho hg2; have ho2 : w2.ownsRow w.heap.size 4 1 v2 N (boolsOf M N) := (by have h := ho; rw [Nat.zero_add, List.nil_append] at h; exact h); have hb2 : Below w.heap.size w w2 := (HB1.out.alloc HB1.out.size _).grown hg2 (by have := HB1.out.size; simp; omega) (fun j hj => (HO0.out.lt j hj).1); obtain ⟨g1, c1, rfl, hb1, hl1, hf1, hc1, hbr⟩ := met_put ho2 hp; have hix1 := bools_index g1 N c1 p hp; have HB3 := Lib.hid (below_set (k := p) (u := .bool true) hb2 hb1); have HBR := Lib.hid hbr; clear ho hg2 ho2 hb2 hbr)
      obtain ⟨W3, hW3⟩ : ∃ W3, w2.setCell ⟨g1, p, none⟩ (.bool true) = W3 := ⟨_, rfl⟩
      rw [hW3] at HB3 HBR ⊢
      clear hW3 hix1 hf1 hc1 hl1 hix ck
      have HBX0 := Lib.hid (Below.drew (Below.refl W3.heap.size W3))
      have HS0 := Lib.hid (HSS.out _ (HB3.out.trans (HBX0.out.mono HB3.out.size)))
      have HCC := Lib.hid (fun (w' : World) (hb : Below W3.heap.size W3 w') => HIP.out w' (.slice (some ⟨g1, 0, none⟩) N c1) (HB3.out.trans (hb.mono HB3.out.size)) (HBR.out.below hb))
      go_wp2_with fail
      go_region_held3 (fun w' => w'.cell? ⟨gx, ox + 2, none⟩ = some (.bool au) ∧ w'.cell? ⟨gx, ox + 3, none⟩ = some u0 ∧ w'.cell? ⟨gx, ox + 4, none⟩ = some u1 ∧ w'.cell? ⟨gx, ox + 5, none⟩ = some u2 ∧ w'.cell? ⟨gx, ox + 6, none⟩ = some u3 ∧ w'.cell? ⟨gx, ox + 7, none⟩ = some u4 ∧ w'.cell? ⟨gx, ox + 8, none⟩ = some u5 ∧ w'.cell? ⟨gx, ox + 9, none⟩ = some u6 ∧ w'.cell? ⟨gx, ox + 10, none⟩ = some u7 ∧ w'.cell? ⟨gx, ox + 11, none⟩ = some u8 ∧ w'.cell? ⟨gx, ox + 12, none⟩ = some u9 ∧ w'.cell? ⟨gx, ox + 13, none⟩ = some u10 ∧ w'.cell? ⟨gx, ox + 14, none⟩ = some u11 ∧ w'.cell? ⟨gx, ox + 15, none⟩ = some u12 ∧ w'.cell? ⟨gx, ox + 16, none⟩ = some u13 ∧ w'.cell? ⟨gx, ox + 17, none⟩ = some u14) (first | with_reducible exact HS1.out | with_reducible exact HS0.out) (first | (go_at_call 58; (with_reducible refine (HCC.out _ HBX0.out).mono ?_); rintro e w4 ⟨ov, mv4, O, M4, rfl, h1, h2, h3, h4⟩; have HO4 := Lib.hid h1; have HM4 := Lib.hid h2; have HW4 := Lib.hid h3; have HBX1 := Lib.hid (HBX0.out.trans (h4.mono HBX0.out.size)); have HS1 := Lib.hid (HSS.out _ (HB3.out.trans (HBX1.out.mono HB3.out.size))); clear h1 h2 h3 h4))
      all_goals go_wp2_with fail
      all_goals go_ret2
      all_goals exact ⟨_, _, O, M4, rfl, ownsRow_base_a HO4.out (by have h1 := HB3.out.size; have h2 := HBX0.out.size; omega), HM4.out, Wk.ref HT.out HF.out (by rw [HAU.out]; exact HW4.out), HB3.out.trans (HBX1.out.mono HB3.out.size)⟩
end Go.Proofs.Ytecedbjkebdeaaa

/-
  Tags, the document's 'walk' of a type that is neither named nor a choice; and of a choice with automatic tags.
-/
namespace Go.Proofs.Ytecedbjkebdeaaa
open Go.RowKit Go.Maps Go.WideElems Go.ChangeMaps Go.MapKept Go.Shelf
set_option linter.unusedVariables false
set_option linter.unusedSimpArgs false
set_option maxRecDepth 100000

set_option maxHeartbeats 8000000 in
theorem walk_leaf (l : EL) (t : TT) (a : Bool) (B : Nat) (w : World) (mv : Value) (M : Nat → Bool) (ht : TIn B w t) (hB : B ≤ w.heap.size) (hM : BRow w mv l.n M) (h11 : t.kd ≠ 11) (h10 : t.kd ≠ 10) :
    Calls Try.prog 58 #[.slice l.a l.n l.cap, .bool a, .agg t.cells.toArray, mv] w fun e w' => WkOut l a t M w e w' := by
  obtain ⟨i0, hi0, hz0, hz1, hz2⟩ := info_parts info_i64
  obtain ⟨pa, pc, aa, ac, ea, ec, TC⟩ := ht.tcells
  have HXN := Lib.hid (Bx.new w t.cells.toArray 35)
  have c0 := HXN.out.cell 0 TC.kd
  have k64 := TC.k64
  have HB0 := Lib.hid (show Below w.heap.size w (w.alloc (.cells t.cells.toArray 35)) from (Below.refl w.heap.size w).alloc (Nat.le_refl _) _)
  have HM := Lib.hid hM
  have HW := Lib.hid (Wk.leaf (l := l) (a := a) M h11 h10)
  have q1 : (t.kd == 11) = false := beq_eq_false_iff_ne.2 h11
  have q2 : (t.kd != 10) = true := by simp [h10]
  obtain ⟨kd, hkd⟩ : ∃ kd, t.kd = kd := ⟨_, rfl⟩
  rw [hkd] at c0 k64 q1 q2 HW
  obtain ⟨u, hu⟩ : ∃ u, ut kd = u := ⟨_, rfl⟩
  have HU := Lib.hid (fun W => univ_ok W kd k64)
  rw [hu] at HU HW
  have hun : 0 ≤ u := by rw [← hu]; exact ut_nonneg kd
  clear TC hM h11 h10 hkd k64 ht hu
  go_enter Try.func58, Try.ntmps58
  go_wp2_with fail
  obtain ⟨W0, hW0⟩ : ∃ W0, w.alloc (.cells t.cells.toArray 35) = W0 := ⟨_, rfl⟩
  rw [hW0] at c0 HXN HB0 ⊢
  clear hW0
  refine (HU.out W0).mono ?_
  rintro e w1 ⟨rfl, h1⟩
  have HX1 := Lib.hid (HXN.out.below h1 HXN.out.lt)
  have HB1 := Lib.hid (HB0.out.trans (h1.mono HB0.out.size))
  have c1 : w1.cell? ⟨w.heap.size, 0, none⟩ = some (.int .i64 kd) := (h1.cell (p := ⟨w.heap.size, 0, none⟩) HXN.out.lt).trans c0
  clear h1 c0
  by_cases h0 : 0 < u
  · have q3 : decide (0 < u) = true := decide_eq_true h0
    rw [if_pos h0] at HW
    clear h0
    go_wp2_with fail
    refine (HU.out w1).mono ?_
    rintro e w2 ⟨rfl, h2⟩
    have HB2 := Lib.hid (HB1.out.trans (h2.mono HB1.out.size))
    have HO0 := Lib.hid (World.ownsRow_nil w2 w.heap.size 3 1)
    clear h2 c1
    go_wp2_with (at_builtin; refine wpList_append_row rfl (.tmp 62) (.tmp 66) 37 rfl w.heap.size 3 i0 (.int .i64 0) 1 8 Try.underlying37 hi0 hz0 hz1 hz2 rfl (by decide) _ 0 [] rfl (World.ownsRow.alloc HO0.out _) (some ⟨w2.heap.size, 0, none⟩) 1 1 [.int .i64 u] rfl rfl (.inr ⟨_, rfl, cell_one_new w2 (.int .i64 u) 3⟩) (by intro z hz; rw [List.mem_singleton] at hz; subst hz; rfl) (by unfold maxLen; omega) (by omega) (by have := HB2.out.size; simp; omega) ?_; intro v3 w3 ho hg; have HO3 := Lib.hid ho; have HB3 := Lib.hid ((HB2.out.alloc HB2.out.size _).grown hg (by have := HB2.out.size; simp; omega) (fun j hj => (by cases hj))); clear ho hg)
    go_ret2
    exact ⟨_, _, [u], M, rfl, HO3.out, HM.out.below HB3.out, HW.out, HB3.out⟩
  · have q3 : decide (0 < u) = false := decide_eq_false h0
    rw [if_neg h0] at HW
    clear h0
    go_wp2_with fail
    go_ret2
    exact ⟨_, _, [], M, rfl, World.ownsRow_nil _ _ _ _, HM.out.below HB1.out, HW.out, HB1.out⟩
end Go.Proofs.Ytecedbjkebdeaaa

/-
  Tags, the document's 'walk' of a choice with automatic tags.
-/
namespace Go.Proofs.Ytecedbjkebdeaaa
open Go.RowKit Go.Maps Go.WideElems Go.ChangeMaps Go.MapKept Go.Shelf
set_option linter.unusedVariables false
set_option linter.unusedSimpArgs false
set_option maxRecDepth 100000

set_option maxHeartbeats 16000000 in
theorem walk_auto (l : EL) (t : TT) (B : Nat) (w : World) (mv : Value) (M : Nat → Bool) (ht : TIn B w t) (hB : B ≤ w.heap.size) (hM : BRow w mv l.n M) (h10 : t.kd = 10) (hnal : t.nal ≤ 10000) :
    Calls Try.prog 58 #[.slice l.a l.n l.cap, .bool true, .agg t.cells.toArray, mv] w fun e w' => WkOut l true t M w e w' := by
  obtain ⟨i0, hi0, hz0, hz1, hz2⟩ := info_parts info_Pz
  obtain ⟨pa, pc, aa, ac, ea, ec, TC⟩ := ht.tcells
  have HXN := Lib.hid (Bx.new w t.cells.toArray 35)
  have c0 := HXN.out.cell 0 TC.kd
  have c12 := HXN.out.cell 12 TC.ps
  have c13 := HXN.out.cell 13 TC.ads
  rw [h10] at c0
  have HB0 := Lib.hid (show Below w.heap.size w (w.alloc (.cells t.cells.toArray 35)) from (Below.refl w.heap.size w).alloc (Nat.le_refl _) _)
  have hlf := fun i (hi : i < t.pn) => (one_pcells (p := t.ald i) (TC.al i (by unfold TT.nal; omega)).2)
  have hlg := fun i (hi : i < t.an) => (one_pcells (p := t.ald (t.pn + i)) (TC.al (t.pn + i) (by unfold TT.nal; omega)).2)
  have hl1 := flat_len (fun i hi => (hlf i hi).1)
  have hl2 := flat_len (fun i hi => (hlg i hi).1)
  have ho1 := flat_one (fun i hi => (hlf i hi).2)
  have ho2 := flat_one (fun i hi => (hlg i hi).2)
  have hn1 := row_news TC.pr (fun i hi => (hlf i hi).1)
  have hn2 := row_news TC.ar (fun i hi => (hlg i hi).1)
  have hfin : ∀ (W : World) (v : Value), W.ownsRow w.heap.size 42 18 v (0 + t.pn + t.an) ([] ++ flat (fun i => pcells (t.ald i) (t.alt i)) t.pn ++ flat (fun i => pcells (t.ald (t.pn + i)) (t.alt (t.pn + i))) t.an) → PRow w.heap.size W v t.nal (fun i => pcells (t.ald i) (t.alt i)) := fun W v h => by
    rw [List.nil_append, flat_add, Nat.zero_add] at h
    refine (PRow.of (fun i hi => ?_) h).congr (fun i hi => ?_)
    · split
      · exact (hlf i (by assumption)).1
      · exact (hlg _ (by omega)).1
    · split
      · rfl
      · rw [show t.pn + (i - t.pn) = i by omega]
  obtain ⟨F1, hF1⟩ : ∃ F, flat (fun i => pcells (t.ald i) (t.alt i)) t.pn = F := ⟨_, rfl⟩
  obtain ⟨F2, hF2⟩ : ∃ F, flat (fun i => pcells (t.ald (t.pn + i)) (t.alt (t.pn + i))) t.an = F := ⟨_, rfl⟩
  rw [hF1] at hl1 ho1 hn1 hfin
  rw [hF2] at hl2 ho2 hn2 hfin
  obtain ⟨N, hN⟩ : ∃ N, t.nal = N := ⟨_, rfl⟩
  have hpa : t.pn + t.an = N := hN
  have HAL := Lib.hid TC.al
  rw [hN] at hfin HAL hnal
  have HNN := Lib.hid hN
  obtain ⟨pn, hpn⟩ : ∃ pn, t.pn = pn := ⟨_, rfl⟩
  obtain ⟨an, han⟩ : ∃ an, t.an = an := ⟨_, rfl⟩
  rw [hpn] at c12 hl1 hn1 hfin hpa
  rw [han] at c13 hl2 hn2 hfin hpa
  have HL1 := Lib.hid hl1
  have HL2 := Lib.hid hl2
  have HO1 := Lib.hid ho1
  have HO2 := Lib.hid ho2
  have HN2 := Lib.hid (show ∀ W, Below w.heap.size w W → (aa = none ∧ an = 0 ∧ ac = 0) ∨ ∃ d, aa = some d ∧ ∀ j u, F2[j]? = some u → W.cell? (d.add j) = some u from fun W hb => hn2.imp id (fun ⟨d, h1, h2⟩ => ⟨d, h1, h2 W (hb.mono hB)⟩))
  have HN1A := Lib.hid (show ∀ W, Below w.heap.size w W → (pa = none ∧ pn = 0 ∧ pc = 0) ∨ ∃ d, pa = some d ∧ ∀ j u, F1[j]? = some u → W.cell? (d.add j) = some u from fun W hb => hn1.imp id (fun ⟨d, h1, h2⟩ => ⟨d, h1, h2 W (hb.mono hB)⟩))
  have HFIN := Lib.hid hfin
  have HM := Lib.hid hM
  have HT := Lib.hid h10
  have q1 : ((10 : Int) == 11) = false := rfl
  have q2 : ((10 : Int) != 10) = false := rfl
  clear TC hM h10 ht hlf hlg hl1 hl2 ho1 ho2 hn1 hn2 hfin hF1 hF2 hN hpn han
  go_enter Try.func58, Try.ntmps58
  go_wp2_with fail
  obtain ⟨W0, hW0⟩ : ∃ W0, w.alloc (.cells t.cells.toArray 35) = W0 := ⟨_, rfl⟩
  rw [hW0] at c0 c12 c13 HXN HB0 ⊢
  clear hW0
  have hs0 : w.heap.size ≤ W0.heap.size := HB0.out.size
  have HO0 := Lib.hid (World.ownsRow_lit (base := w.heap.size) (e := 42) (size := 18) W0 #[] 0 hs0 (by unfold maxLen; omega) (by rfl))
  have HO0L := Lib.hid (show ∀ j, (Value.slice (some ⟨W0.heap.size, 0, none⟩) 0 0).ownBlock = some j → W0.heap.size ≤ j from fun j hj => by cases hj; exact Nat.le_refl _)
  have HB00 := Lib.hid (show Below w.heap.size w (W0.alloc (.cells #[] 42)).drew from Below.drew (HB0.out.alloc hs0 _))
  have HB0W := Lib.hid (show Below W0.heap.size W0 (W0.alloc (.cells #[] 42)).drew from Below.drew ((Below.refl _ W0).alloc (Nat.le_refl _) _))
  have HSW := Lib.hid HB0W.out.size
  have HS0 := Lib.hid HB00.out.size
  have HN1 := Lib.hid (HN1A.out _ HB00.out)
  have HBX := Lib.hid (show ∀ W, Below W0.heap.size W0 W → W.cell? ⟨w.heap.size, 13, none⟩ = some (.slice aa an ac) from fun W hb => (hb.cell (p := ⟨w.heap.size, 13, none⟩) HXN.out.lt).trans c13)
  have HBY := Lib.hid (show ∀ W, Below W0.heap.size W0 W → W.cell? ⟨w.heap.size, 12, none⟩ = some (.slice pa pn pc) from fun W hb => (hb.cell (p := ⟨w.heap.size, 12, none⟩) HXN.out.lt).trans c12)
  have k12a := HBY.out _ HB0W.out
  have k13a := HBX.out _ HB0W.out
  go_cut [13] from 70 to 76 (fun v wx => PRow w.heap.size wx v N (fun i => pcells (t.ald i) (t.alt i)) ∧ Below w.heap.size w wx)
  case first =>
    go_region_law (first | (refine step_append_row (by rfl) (.tmp 73) (.tmp 75) 32 (by rfl) w.heap.size 42 i0 zeroP 18 272 Try.underlying32 hi0 hz0 hz1 hz2 (by rfl) (by decide) v1 (0 + pn) ([] ++ F1) (by rfl) HOA.out aa an ac F2 (by rfl) HL2.out (HN2.out _ HBA.out) HO2.out (by unfold maxLen; omega) (by omega) HBA.out.size ?_; intro v2 w5 ho hg; have HOB := Lib.hid ho; have HBB := Lib.hid (show Below w.heap.size w w5 from HBA.out.grown hg HBA.out.size (fun j hj => (HOA.out.lt j hj).1)); clear ho hg) | (refine step_append_row (by rfl) (.tmp 70) (.tmp 72) 32 (by rfl) w.heap.size 42 i0 zeroP 18 272 Try.underlying32 hi0 hz0 hz1 hz2 (by rfl) (by decide) _ 0 [] (by rfl) HO0.out pa pn pc F1 (by rfl) HL1.out HN1.out HO1.out (by unfold maxLen; omega) (by omega) HS0.out ?_; intro v1 w4 ho hg; have HOA := Lib.hid ho; have HBA := Lib.hid (show Below w.heap.size w w4 from HB00.out.grown hg HS0.out (fun j hj => (HO0.out.lt j hj).1)); have k13 := (HBX.out w4 (show Below W0.heap.size W0 w4 from HB0W.out.grown hg HSW.out (fun j hj => HO0L.out j hj))); clear ho hg))
    all_goals go_wp2_with fail
    all_goals go_meet
    all_goals exact ⟨HFIN.out _ _ HOB.out, HBB.out⟩
  obtain ⟨hpr, hbx⟩ := hcut
  obtain ⟨al, cl, rfl, hncl, hpr⟩ := hpr
  rename World => WA
  have HPR := Lib.hid hpr
  have HBA := Lib.hid hbx
  clear hpr hbx c0 c12 c13 k12a k13a HO0 HO0L HB00 HB0W HSW HS0 HN1 HBX HBY HXN HN2 HN1A HL1 HL2 HO1 HO2 HFIN
  go_wp2_with fail
  go_loopw [3, 10, 14] (fun mv' ov iv wr => mv' = mv ∧ ∃ i : Nat, i ≤ N ∧ iv = .int .i64 (i : Nat) ∧ wr.ownsRow w.heap.size 3 1 ov (autos i).length ((autos i).map (Value.int .i64)) ∧ Below WA.heap.size WA wr) (fun _ _ iv _ => N - (Lib.intOf iv).toNat)
  case atStart => exact ⟨rfl, 0, Nat.zero_le _, rfl, World.ownsRow_nil _ _ _ _, Below.refl _ _⟩
  case round =>
  obtain ⟨rfl, i, hi, rfl, hown, hb⟩ := hrel
  have HBW := Lib.hid (HBA.out.trans (hb.mono HBA.out.size))
  have HBR := Lib.hid hb
  have hal : (autos i).length ≤ 1000000 := by unfold autos; simp; omega
  by_cases hlt : i < N
  · have q4 : decide ((i : Int) < (N : Int)) = true := decide_eq_true (by omega)
    have q4n : decide (i < N) = true := decide_eq_true hlt
    have q5 : IntKind.i64.wrap ((i : Int) + 1) = ((i + 1 : Nat) : Int) := wrap_succ hlt (by omega)
    have q6 : IntKind.i64.wrap ((1000 : Int) + (i : Int)) = 1000 + (i : Int) := wrap_ok (by unfold I64; omega)
    have hpl := place_ok w.heap.size wr u10 (autos i) (1000 + (i : Int)) hown HBW.out.size hal
    rw [autos_succ] at hpl
    have HPL := Lib.hid hpl
    clear hown hb hal hpl
    go_wp2_with fail
    refine HPL.out.mono ?_
    rintro e w2 ⟨v2, rfl, h1, h2⟩
    have HO2 := Lib.hid h1
    have HB2 := Lib.hid (HBR.out.trans (h2.mono HBR.out.size))
    clear h1 h2
    go_wp2_with fail
    go_roundw
    case rel => exact ⟨rfl, i + 1, hlt, rfl, HO2.out, HB2.out⟩
    case measure => simp only [Lib.intOf]; omega
  · have q4 : decide ((i : Int) < (N : Int)) = false := decide_eq_false (by omega)
    have q4n : decide (i < N) = false := decide_eq_false hlt
    have HIN := Lib.hid (show i = N by omega)
    have HOW := Lib.hid hown
    have HW := Lib.hid (Wk.autos (l := l) (t := t) M HT.out (by rw [HNN.out]; exact hnal))
    clear hown hb hal
    go_wp2_with fail
    go_ret2
    have h1 := HOW.out
    rw [HIN.out, ← HNN.out] at h1
    exact ⟨_, _, autos t.nal, M, rfl, h1, HM.out.below HBW.out, HW.out, HBW.out⟩
end Go.Proofs.Ytecedbjkebdeaaa

/-
  Tags, the document's 'walk' of a choice without automatic tags.
-/
namespace Go.Proofs.Ytecedbjkebdeaaa
open Go.RowKit Go.Maps Go.WideElems Go.ChangeMaps Go.MapKept Go.Shelf
set_option linter.unusedVariables false
set_option linter.unusedSimpArgs false
set_option maxRecDepth 100000

def RelWk (l : EL) (t : TT) (M : Nat → Bool) (base N : Nat) (WA : World) (mv ov iv : Value) (wr : World) : Prop :=
  ∃ (i : Nat) (O : List Int) (M1 : Nat → Bool), i ≤ N ∧ iv = .int .i64 (i : Nat) ∧ wr.ownsRow base 3 1 ov O.length (O.map (Value.int .i64)) ∧ BRow wr mv l.n M1 ∧ WkC l t i M O M1 ∧ Below WA.heap.size WA wr
def RelWl (base n : Nat) (O X : List Int) (WT : World) (ov kv : Value) (wr : World) : Prop :=
  ∃ k : Nat, k ≤ n ∧ kv = .int .i64 (k : Nat) ∧ wr.ownsRow base 3 1 ov (plcs O (X.take k)).length ((plcs O (X.take k)).map (Value.int .i64)) ∧ Below WT.heap.size WT wr
set_option maxHeartbeats 16000000 in
theorem walk_choice (l : EL) (t : TT) (B : Nat) (w : World) (mv : Value) (M : Nat → Bool) (ht : TIn B w t) (hB : B ≤ w.heap.size) (hM : BRow w mv l.n M) (h10 : t.kd = 10) (hnal : t.nal ≤ 10000)
    (IH : ∀ i, i < t.nal → ∀ (W : World) (mv' : Value) (M' : Nat → Bool), (∀ p, M p = true → M' p = true) → Below w.heap.size w W → BRow W mv' l.n M' →
      Calls Try.prog 58 #[.slice l.a l.n l.cap, .bool false, .agg (t.alt i).cells.toArray, mv'] W fun e w' => WkOut l false (t.alt i) M' W e w') :
    Calls Try.prog 58 #[.slice l.a l.n l.cap, .bool false, .agg t.cells.toArray, mv] w fun e w' => WkOut l false t M w e w' := by
  obtain ⟨i0, hi0, hz0, hz1, hz2⟩ := info_parts info_Pz
  obtain ⟨pa, pc, aa, ac, ea, ec, TC⟩ := ht.tcells
  have HXN := Lib.hid (Bx.new w t.cells.toArray 35)
  have c0 := HXN.out.cell 0 TC.kd
  have c12 := HXN.out.cell 12 TC.ps
  have c13 := HXN.out.cell 13 TC.ads
  rw [h10] at c0
  have HB0 := Lib.hid (show Below w.heap.size w (w.alloc (.cells t.cells.toArray 35)) from (Below.refl w.heap.size w).alloc (Nat.le_refl _) _)
  have hlf := fun i (hi : i < t.pn) => (one_pcells (p := t.ald i) (TC.al i (by unfold TT.nal; omega)).2)
  have hlg := fun i (hi : i < t.an) => (one_pcells (p := t.ald (t.pn + i)) (TC.al (t.pn + i) (by unfold TT.nal; omega)).2)
  have hl1 := flat_len (fun i hi => (hlf i hi).1)
  have hl2 := flat_len (fun i hi => (hlg i hi).1)
  have ho1 := flat_one (fun i hi => (hlf i hi).2)
  have ho2 := flat_one (fun i hi => (hlg i hi).2)
  have hn1 := row_news TC.pr (fun i hi => (hlf i hi).1)
  have hn2 := row_news TC.ar (fun i hi => (hlg i hi).1)
  have hfin : ∀ (W : World) (v : Value), W.ownsRow w.heap.size 42 18 v (0 + t.pn + t.an) ([] ++ flat (fun i => pcells (t.ald i) (t.alt i)) t.pn ++ flat (fun i => pcells (t.ald (t.pn + i)) (t.alt (t.pn + i))) t.an) → PRow w.heap.size W v t.nal (fun i => pcells (t.ald i) (t.alt i)) := fun W v h => by
    rw [List.nil_append, flat_add, Nat.zero_add] at h
    refine (PRow.of (fun i hi => ?_) h).congr (fun i hi => ?_)
    · split
      · exact (hlf i (by assumption)).1
      · exact (hlg _ (by omega)).1
    · split
      · rfl
      · rw [show t.pn + (i - t.pn) = i by omega]
  obtain ⟨F1, hF1⟩ : ∃ F, flat (fun i => pcells (t.ald i) (t.alt i)) t.pn = F := ⟨_, rfl⟩
  obtain ⟨F2, hF2⟩ : ∃ F, flat (fun i => pcells (t.ald (t.pn + i)) (t.alt (t.pn + i))) t.an = F := ⟨_, rfl⟩
  rw [hF1] at hl1 ho1 hn1 hfin
  rw [hF2] at hl2 ho2 hn2 hfin
  obtain ⟨N, hN⟩ : ∃ N, t.nal = N := ⟨_, rfl⟩
  have hpa : t.pn + t.an = N := hN
  have HAL := Lib.hid TC.al
  rw [hN] at hfin HAL hnal
  have HNN := Lib.hid hN
  obtain ⟨pn, hpn⟩ : ∃ pn, t.pn = pn := ⟨_, rfl⟩
  obtain ⟨an, han⟩ : ∃ an, t.an = an := ⟨_, rfl⟩
  rw [hpn] at c12 hl1 hn1 hfin hpa
  rw [han] at c13 hl2 hn2 hfin hpa
  have HL1 := Lib.hid hl1
  have HL2 := Lib.hid hl2
  have HO1 := Lib.hid ho1
  have HO2 := Lib.hid ho2
  have HN2 := Lib.hid (show ∀ W, Below w.heap.size w W → (aa = none ∧ an = 0 ∧ ac = 0) ∨ ∃ d, aa = some d ∧ ∀ j u, F2[j]? = some u → W.cell? (d.add j) = some u from fun W hb => hn2.imp id (fun ⟨d, h1, h2⟩ => ⟨d, h1, h2 W (hb.mono hB)⟩))
  have HN1A := Lib.hid (show ∀ W, Below w.heap.size w W → (pa = none ∧ pn = 0 ∧ pc = 0) ∨ ∃ d, pa = some d ∧ ∀ j u, F1[j]? = some u → W.cell? (d.add j) = some u from fun W hb => hn1.imp id (fun ⟨d, h1, h2⟩ => ⟨d, h1, h2 W (hb.mono hB)⟩))
  have HFIN := Lib.hid hfin
  have HM := Lib.hid hM
  have HT := Lib.hid h10
  have q1 : ((10 : Int) == 11) = false := rfl
  have q2 : ((10 : Int) != 10) = false := rfl
  have HIH := Lib.hid IH
  clear TC hM h10 ht hlf hlg hl1 hl2 ho1 ho2 hn1 hn2 hfin hF1 hF2 hN hpn han IH
  go_enter Try.func58, Try.ntmps58
  go_wp2_with fail
  obtain ⟨W0, hW0⟩ : ∃ W0, w.alloc (.cells t.cells.toArray 35) = W0 := ⟨_, rfl⟩
  rw [hW0] at c0 c12 c13 HXN HB0 ⊢
  clear hW0
  have hs0 : w.heap.size ≤ W0.heap.size := HB0.out.size
  have HO0 := Lib.hid (World.ownsRow_lit (base := w.heap.size) (e := 42) (size := 18) W0 #[] 0 hs0 (by unfold maxLen; omega) (by rfl))
  have HO0L := Lib.hid (show ∀ j, (Value.slice (some ⟨W0.heap.size, 0, none⟩) 0 0).ownBlock = some j → W0.heap.size ≤ j from fun j hj => by cases hj; exact Nat.le_refl _)
  have HB00 := Lib.hid (show Below w.heap.size w (W0.alloc (.cells #[] 42)).drew from Below.drew (HB0.out.alloc hs0 _))
  have HB0W := Lib.hid (show Below W0.heap.size W0 (W0.alloc (.cells #[] 42)).drew from Below.drew ((Below.refl _ W0).alloc (Nat.le_refl _) _))
  have HSW := Lib.hid HB0W.out.size
  have HS0 := Lib.hid HB00.out.size
  have HN1 := Lib.hid (HN1A.out _ HB00.out)
  have HBX := Lib.hid (show ∀ W, Below W0.heap.size W0 W → W.cell? ⟨w.heap.size, 13, none⟩ = some (.slice aa an ac) from fun W hb => (hb.cell (p := ⟨w.heap.size, 13, none⟩) HXN.out.lt).trans c13)
  have HBY := Lib.hid (show ∀ W, Below W0.heap.size W0 W → W.cell? ⟨w.heap.size, 12, none⟩ = some (.slice pa pn pc) from fun W hb => (hb.cell (p := ⟨w.heap.size, 12, none⟩) HXN.out.lt).trans c12)
  have k12a := HBY.out _ HB0W.out
  have k13a := HBX.out _ HB0W.out
  go_cut [13] from 70 to 76 (fun v wx => PRow w.heap.size wx v N (fun i => pcells (t.ald i) (t.alt i)) ∧ Below w.heap.size w wx)
  case first =>
    go_region_law (first | (refine step_append_row (by rfl) (.tmp 73) (.tmp 75) 32 (by rfl) w.heap.size 42 i0 zeroP 18 272 Try.underlying32 hi0 hz0 hz1 hz2 (by rfl) (by decide) v1 (0 + pn) ([] ++ F1) (by rfl) HOA.out aa an ac F2 (by rfl) HL2.out (HN2.out _ HBA.out) HO2.out (by unfold maxLen; omega) (by omega) HBA.out.size ?_; intro v2 w5 ho hg; have HOB := Lib.hid ho; have HBB := Lib.hid (show Below w.heap.size w w5 from HBA.out.grown hg HBA.out.size (fun j hj => (HOA.out.lt j hj).1)); clear ho hg) | (refine step_append_row (by rfl) (.tmp 70) (.tmp 72) 32 (by rfl) w.heap.size 42 i0 zeroP 18 272 Try.underlying32 hi0 hz0 hz1 hz2 (by rfl) (by decide) _ 0 [] (by rfl) HO0.out pa pn pc F1 (by rfl) HL1.out HN1.out HO1.out (by unfold maxLen; omega) (by omega) HS0.out ?_; intro v1 w4 ho hg; have HOA := Lib.hid ho; have HBA := Lib.hid (show Below w.heap.size w w4 from HB00.out.grown hg HS0.out (fun j hj => (HO0.out.lt j hj).1)); have k13 := (HBX.out w4 (show Below W0.heap.size W0 w4 from HB0W.out.grown hg HSW.out (fun j hj => HO0L.out j hj))); clear ho hg))
    all_goals go_wp2_with fail
    all_goals go_meet
    all_goals exact ⟨HFIN.out _ _ HOB.out, HBB.out⟩
  obtain ⟨hpr, hbx⟩ := hcut
  obtain ⟨al, cl, rfl, hncl, hpr⟩ := hpr
  rename World => WA
  have HPR := Lib.hid hpr
  have HBA := Lib.hid hbx
  clear hpr hbx c0 c12 c13 k12a k13a HO0 HO0L HB00 HB0W HSW HS0 HN1 HBX HBY HXN HN2 HN1A HL1 HL2 HO1 HO2 HFIN
  go_wp2_with fail
  go_loopw [3, 10, 14] (fun mv ov iv wr => RelWk l t M w.heap.size N WA mv ov iv wr) (fun _ _ iv _ => N - (Lib.intOf iv).toNat)
  case atStart => exact ⟨0, [], M, Nat.zero_le _, rfl, World.ownsRow_nil _ _ _ _, HM.out.below HBA.out, WkC.start M, Below.refl _ _⟩
  case round =>
  rename World => wR
  obtain ⟨i, O, M1, hi, rfl, hown, hbr, hwk, hb⟩ := hrel
  have HBW := Lib.hid (HBA.out.trans (hb.mono HBA.out.size))
  have HBR := Lib.hid hb
  have HOW := Lib.hid hown
  have HMR := Lib.hid hbr
  have HWK := Lib.hid hwk
  clear hown hbr hwk hb
  by_cases hlt : i < N
  · have q4 : decide ((i : Int) < (N : Int)) = true := decide_eq_true (by omega)
    have q4n : decide (i < N) = true := decide_eq_true hlt
    have q5 : IntKind.i64.wrap ((i : Int) + 1) = ((i + 1 : Nat) : Int) := wrap_succ hlt (by omega)
    obtain ⟨gx, ox, hix, _, hgl, hrd⟩ := HPR.out i hlt
    have hil : i < t.nal := by rw [HNN.out]; exact hlt
    have H1T := Lib.hid (one_tcells (HAL.out i hlt).2)
    have HRT := Lib.hid (show wR.rangeAt gx (ox + 1) (t.alt i).cells from part_range (p := t.ald i) (fun j v hv => (World.cell?_of_block (w := WA) (a := ⟨gx, ox + j, none⟩) (HBR.out.block gx hgl)).trans (hrd j v hv)))
    have HC := Lib.hid (HIH.out i hil wR u3 M1 HWK.out.mo HBW.out HMR.out)
    clear hrd hgl
    go_wp2_with (refine wpList_load_mid rfl 35 (.tmp 94) rfl gx (ox + 1) rfl (t.alt i).cells _ HRT.out Try.underlying35 rfl (by rw [info_T, H1T.out.1]) ?_)
    refine HC.out.mono ?_
    rintro e wT ⟨xv, mv2, X, M2, rfl, h1, h2, h3, h4⟩
    obtain ⟨xa, xc, rfl⟩ := own_slice h1
    obtain ⟨n2, hn2⟩ : ∃ n2, X.length = n2 := ⟨_, rfl⟩
    have HN2 := Lib.hid hn2
    have hn2m : n2 ≤ 20000 := by rw [← hn2]; exact h3.len
    rw [hn2] at h1 ⊢
    have HXO := Lib.hid h1
    have HM2 := Lib.hid h2
    have HX := Lib.hid h3
    have HBT := Lib.hid (HBR.out.trans (h4.mono HBR.out.size))
    have HOT := Lib.hid (own_block HOW.out (w' := wT) fun k hk => h4.block k ((HOW.out.lt k hk).2))
    have hbs : w.heap.size ≤ wT.heap.size := Nat.le_trans HBW.out.size h4.size
    clear h1 h2 h3 h4 hn2 HC HRT H1T hix
    go_wp2_with fail
    go_loopw [10, 17] (fun ov kv wr => RelWl w.heap.size n2 O X wT ov kv wr) (fun _ kv _ => n2 - (Lib.intOf kv).toNat)
    case atStart => exact ⟨0, Nat.zero_le _, rfl, HOT.out, Below.refl _ _⟩
    case round =>
    rename World => wS
    obtain ⟨k, hk, rfl, hown, hb⟩ := hrel
    have HOS := Lib.hid hown
    have HBS := Lib.hid hb
    have hlen : (plcs O (X.take k)).length ≤ 1000000 := Nat.le_trans (HWK.out.part HT.out hil HX.out k) (by omega)
    clear hown
    by_cases hltk : k < n2
    · have q4k : decide ((k : Int) < (n2 : Int)) = true := decide_eq_true (by omega)
      have q4kn : decide (k < n2) = true := decide_eq_true hltk
      have q5k : IntKind.i64.wrap ((k : Int) + 1) = ((k + 1 : Nat) : Int) := wrap_succ hltk (by omega)
      obtain ⟨g1, cc1, e1, _, hgl1, hi1, hc1⟩ := own_read 37 3 Try.underlying37 (by kernel_rfl) Try.sizeOf3 HXO.out hltk
      cases e1
      obtain ⟨x, hx⟩ : ∃ x, X[k]? = some x := ⟨_, List.getElem?_eq_getElem (by rw [HN2.out]; exact hltk)⟩
      have ck : wS.cell? ⟨g1, k, none⟩ = some (.int .i64 x) := (hb.cell (p := ⟨g1, k, none⟩) hgl1).trans (hc1 k _ (by rw [List.getElem?_map, hx]; rfl))
      have hpl := place_ok w.heap.size wS _ (plcs O (X.take k)) x HOS.out (Nat.le_trans hbs hb.size) hlen
      have e2 : plc (plcs O (X.take k)) x = plcs O (X.take (k + 1)) := by rw [List.take_add_one, hx]; exact (plcs_snoc _ _ _).symm
      rw [e2] at hpl
      have HPL := Lib.hid hpl
      clear hc1 hx hpl e2 hb hlen
      go_wp2_with fail
      refine HPL.out.mono ?_
      rintro e w6 ⟨v6, rfl, h1, h2⟩
      have HO6 := Lib.hid h1
      have HB6 := Lib.hid (HBS.out.trans (h2.mono HBS.out.size))
      clear h1 h2 ck
      go_wp2_with fail
      go_roundw
      case rel => exact ⟨k + 1, hltk, rfl, HO6.out, HB6.out⟩
      case measure => simp only [Lib.intOf]; omega
    · have q4k : decide ((k : Int) < (n2 : Int)) = false := decide_eq_false (by omega)
      have q4kn : decide (k < n2) = false := decide_eq_false hltk
      have HTK := Lib.hid (show X.take k = X from List.take_of_length_le (by rw [HN2.out]; omega))
      clear hb hlen
      go_wp2_with fail
      go_roundw
      case rel =>
        have h1 := HOS.out
        rw [HTK.out] at h1
        exact ⟨i + 1, plcs O X, M2, hlt, rfl, h1, HM2.out.below HBS.out, HWK.out.next HT.out hil HX.out, HBT.out.trans (HBS.out.mono HBT.out.size)⟩
      case measure => simp only [Lib.intOf]; omega
  · have q4 : decide ((i : Int) < (N : Int)) = false := decide_eq_false (by omega)
    have q4n : decide (i < N) = false := decide_eq_false hlt
    have HIN := Lib.hid (show i = t.nal by have := HNN.out; omega)
    go_wp2_with fail
    go_ret2
    have h1 := HWK.out
    rw [HIN.out] at h1
    exact ⟨_, _, O, M1, rfl, HOW.out, HMR.out, h1.done HT.out, HBW.out⟩
end Go.Proofs.Ytecedbjkebdeaaa

/-
  Package tags' laws: the count of entries; arguments that are entries, opened.
-/
namespace Go.Proofs.Ytecedbjkebdeaaa
open Go.RowKit Go.Maps Go.WideElems Go.ChangeMaps Go.MapKept Go.Shelf
set_option linter.unusedVariables false
set_option linter.unusedSimpArgs false
set_option maxRecDepth 100000

/-- what the law's count lets by -/
def FewE (l : EL) : Prop := l.n ≤ 12 ∧ ∀ i, i < l.n → 0 ≤ (l.f i).t.few 60 ∧ (l.f i).mod.size + (l.f i).name.size ≤ 1000
set_option maxHeartbeats 8000000 in
theorem few13_ok (w : World) (l : EL) (hl : ELIn w.heap.size w l) :
    Calls Try.prog 6 #[.slice l.a l.n l.cap, .int .i64 60] w fun e w' => (∃ b, e = .returned (.bool b) ∧ (b = true → FewE l)) ∧ Below w.heap.size w w' := by
  have HL := Lib.hid hl
  obtain ⟨N, hN⟩ : ∃ N, l.n = N := ⟨_, rfl⟩
  have HN := Lib.hid hN
  rw [hN]
  clear hl hN
  by_cases h12 : 12 < N
  · have q0 : decide ((12 : Int) < (N : Int)) = true := decide_eq_true (by omega)
    have q0n : decide (12 < N) = true := decide_eq_true h12
    go_enter Try.func6, Try.ntmps6
    go_wp2_with fail
    go_ret
    exact ⟨⟨false, rfl, fun e => (by cases e)⟩, Below.refl _ _⟩
  have q0 : decide ((12 : Int) < (N : Int)) = false := decide_eq_false (by omega)
  have q0n : decide (12 < N) = false := decide_eq_false h12
  go_enter Try.func6, Try.ntmps6
  go_wp2_with fail
  go_loopw [5] (fun iv wr => ∃ i : Nat, i ≤ N ∧ iv = .int .i64 (i : Nat) ∧ Below w.heap.size w wr ∧ ∀ j, j < i → 0 ≤ (l.f j).t.few 60 ∧ (l.f j).mod.size + (l.f j).name.size ≤ 1000) (fun iv _ => N - (Lib.intOf iv).toNat)
  case atStart => exact ⟨0, Nat.zero_le _, rfl, Below.refl _ _, fun j hj => absurd hj (Nat.not_lt_zero j)⟩
  case round =>
  obtain ⟨i, hi, rfl, hb, hj⟩ := hrel
  have HB := Lib.hid hb
  have HJ := Lib.hid hj
  have hsz := hb.size
  by_cases hlt : i < N
  · have q4 : decide ((i : Int) < (N : Int)) = true := decide_eq_true (by omega)
    have q4n : decide (i < N) = true := decide_eq_true hlt
    have q5 : IntKind.i64.wrap ((i : Int) + 1) = ((i + 1 : Nat) : Int) := wrap_succ hlt (by omega)
    have hil : i < l.n := by rw [HN.out]; exact hlt
    obtain ⟨gx, ox, hix, hgx, hrd⟩ := eRow_read HL.out hil
    rw [HN.out] at hix
    have hein := HL.out.2 i hil
    have hr := hrd wr (hb.block gx hgx)
    have c0 : wr.cell? ⟨gx, ox, none⟩ = some (.string (l.f i).mod) := hr 0 _ rfl
    have c1 : wr.cell? ⟨gx, ox + 1, none⟩ = some (.string (l.f i).name) := hr 1 _ rfl
    have HRG := Lib.hid (tq_range (show wr.rangeAt gx (ox + 3) (l.f i).t.cells from fun j v hv => by
      have := hr (3 + j) v (by unfold ET.cells; rw [List.getElem?_append_right (by simp)]; simpa using hv)
      rw [← Nat.add_assoc] at this
      exact this))
    have H1T := Lib.hid (one_tcells hein.2.2)
    have HC := Lib.hid (fun (d : Nat) (os : Array Obj) => Calls.regrown_of (Few_ok (l.f i).t w.heap.size 60 (Go.Sort.grow (redrawn wr d) os) (hein.2.2.below (hb.trans ((below_regrown wr d os).mono hsz)) (Nat.le_refl _)) (Nat.le_trans hsz (below_regrown wr d os).size) (by omega) (by omega)))
    obtain ⟨t, ht⟩ : ∃ t, (l.f i).t = t := ⟨_, rfl⟩
    obtain ⟨A, hA⟩ : ∃ A, (l.f i).mod = A := ⟨_, rfl⟩
    obtain ⟨B, hB⟩ : ∃ B, (l.f i).name = B := ⟨_, rfl⟩
    have hAs := hein.1
    have hBs := hein.2.1
    have HTAB := Lib.hid (And.intro ht (And.intro hA hB))
    rw [ht] at HRG H1T HC
    rw [hA] at c0 hAs
    rw [hB] at c1 hBs
    obtain ⟨fb, hfb⟩ : ∃ fb, decide (0 ≤ t.few 60) = fb := ⟨_, rfl⟩
    have HFB := Lib.hid hfb
    rw [hfb] at HC
    have q6 : IntKind.i64.wrap ((A.size : Int) + (B.size : Int)) = ((A.size + B.size : Nat) : Int) := by
      have := wrap_ok (x := (A.size : Int) + (B.size : Int)) (by unfold I64; omega)
      rw [this]
      omega
    obtain ⟨zb, hzb⟩ : ∃ zb, decide (1000 < A.size + B.size) = zb := ⟨_, rfl⟩
    have q7 : decide ((1000 : Int) < ((A.size + B.size : Nat) : Int)) = zb := by rw [← hzb]; exact decide_eq_decide.2 (by omega)
    have q8 : decide ((1000 : Int) < (A.size : Int) + (B.size : Int)) = zb := by rw [← hzb]; exact decide_eq_decide.2 (by omega)
    have HZB := Lib.hid hzb
    have k0 := fun d os => cell_regrown c0 d os
    have k1 := fun d os => cell_regrown c1 d os
    clear hb hj hr hrd hein ht hA hB hfb hzb hil hgx c0 c1
    cases fb with
    | false =>
      go_wp2_with fail
      refine wp_region_quiet_below (by kernel_rfl) (by kernel_rfl) ?_
      iterate 4 go_big_quiet_step (fail)
      (go_big_quiet_want; refine tq_load_mid 35 (.tmp 18) rfl gx (ox + 3) rfl t.cells _ HRG.out Try.underlying35 rfl (by rw [info_T, H1T.out.1]) ?_; simp only [tq_put, List.set_cons_succ, List.set_cons_zero]; go_big_quiet_on)
      go_big_quiet_step (fail)
      go_big_quiet_step (exact HC.out _ _)
      iterate 17 go_big_quiet_step (fail)
      refine wpQuiet_nil ?_
      intro _ hw'
      obtain ⟨⟨dq, osq⟩, hw''⟩ := hw'
      subst hw''
      have hb2 := below_regrown wr dq osq
      clear k0 k1 HRG HC
      generalize Go.Sort.grow (redrawn wr dq) osq = W2 at *
      have HB4 := Lib.hid (HB.out.trans (hb2.mono hsz))
      go_wp2_with fail
      go_ret
      exact ⟨⟨false, rfl, fun e => (by cases e)⟩, HB4.out⟩
    | true =>
    cases zb with
    | true =>
      go_wp2_with fail
      refine wp_region_quiet_below (by kernel_rfl) (by kernel_rfl) ?_
      iterate 4 go_big_quiet_step (fail)
      (go_big_quiet_want; refine tq_load_mid 35 (.tmp 18) rfl gx (ox + 3) rfl t.cells _ HRG.out Try.underlying35 rfl (by rw [info_T, H1T.out.1]) ?_; simp only [tq_put, List.set_cons_succ, List.set_cons_zero]; go_big_quiet_on)
      go_big_quiet_step (fail)
      go_big_quiet_step (exact HC.out _ _)
      iterate 17 go_big_quiet_step (fail)
      refine wpQuiet_nil ?_
      intro _ hw'
      obtain ⟨⟨dq, osq⟩, hw''⟩ := hw'
      subst hw''
      have hb2 := below_regrown wr dq osq
      clear k0 k1 HRG HC
      generalize Go.Sort.grow (redrawn wr dq) osq = W2 at *
      have HB4 := Lib.hid (HB.out.trans (hb2.mono hsz))
      go_wp2_with fail
      go_ret
      exact ⟨⟨false, rfl, fun e => (by cases e)⟩, HB4.out⟩
    | false =>
      have HJ2 := Lib.hid (show ∀ j, j < i + 1 → 0 ≤ (l.f j).t.few 60 ∧ (l.f j).mod.size + (l.f j).name.size ≤ 1000 from fun j hj => by
        rcases Nat.lt_or_ge j i with h | h
        · exact HJ.out j h
        · obtain rfl : j = i := by omega
          rw [HTAB.out.1, HTAB.out.2.1, HTAB.out.2.2]
          have h1 := of_decide_eq_true HFB.out
          have h2 := of_decide_eq_false HZB.out
          exact ⟨h1, by omega⟩)
      go_wp2_with fail
      refine wp_region_quiet_below (by kernel_rfl) (by kernel_rfl) ?_
      iterate 4 go_big_quiet_step (fail)
      (go_big_quiet_want; refine tq_load_mid 35 (.tmp 18) rfl gx (ox + 3) rfl t.cells _ HRG.out Try.underlying35 rfl (by rw [info_T, H1T.out.1]) ?_; simp only [tq_put, List.set_cons_succ, List.set_cons_zero]; go_big_quiet_on)
      go_big_quiet_step (fail)
      go_big_quiet_step (exact HC.out _ _)
      iterate 17 go_big_quiet_step (fail)
      refine wpQuiet_nil ?_
      intro _ hw'
      obtain ⟨⟨dq, osq⟩, hw''⟩ := hw'
      subst hw''
      have hb2 := below_regrown wr dq osq
      clear k0 k1 HRG HC
      generalize Go.Sort.grow (redrawn wr dq) osq = W2 at *
      have HB4 := Lib.hid (HB.out.trans (hb2.mono hsz))
      go_wp2_with fail
      go_roundw
      case rel => exact ⟨i + 1, hlt, rfl, HB4.out, HJ2.out⟩
      case measure => simp only [Lib.intOf]; omega
  · have q4 : decide ((i : Int) < (N : Int)) = false := decide_eq_false (by omega)
    have q4n : decide (i < N) = false := decide_eq_false hlt
    have HE := Lib.hid (show i = l.n by have := HN.out; omega)
    go_wp2_with fail
    go_ret
    exact ⟨⟨true, rfl, fun _ => ⟨by rw [HN.out]; omega, fun j hj' => HJ.out j (by rw [HE.out]; exact hj')⟩⟩, HB.out⟩

/-! entries, opened -/
theorem kEnt : Try.prog.cellsOf 46 = 18 := by kernel_rfl
theorem open_ent {H : Type} {enc : TypeId × Value → H} {W : World} {fuel : Nat} {cs : List Value} {x : DataW H × List MemPlace} (h : DataW.trod enc Try.prog W 0 (fun _ => true) true fuel 46 cs = some x) (hl : Light 46 x.1) :
    ∃ e : ET, cs = e.cells ∧ EIn W.heap.size W e := by
  obtain ⟨n, rfl, hlen, hf⟩ := open_struct Try.underlying46 h hl
  rw [kEnt] at hlen
  match cs, hlen with
  | [c0, c1, c2, c3, c4, c5, c6, c7, c8, c9, c10, c11, c12, c13, c14, c15, c16, c17], _ =>
    obtain ⟨y0, f0, l0⟩ := hf 0 _ rfl 9 0 rfl rfl
    obtain ⟨y1, f1, l1⟩ := hf 1 _ rfl 9 1 rfl rfl
    obtain ⟨y2, f2, _⟩ := hf 2 _ rfl 4 2 rfl rfl
    obtain ⟨y3, f3, l3⟩ := hf 3 _ rfl 35 3 rfl rfl
    simp only [kStr, kTyp, kBool, List.drop_zero, List.drop_succ_cons, List.take_succ_cons, List.take_zero] at f0 f1 f2 f3
    obtain ⟨a0, e0, w0⟩ := open_str Try.underlying9 f0 l0
    obtain ⟨a1, e1, w1⟩ := open_str Try.underlying9 f1 l1
    obtain ⟨a2, e2⟩ := open_b f2
    obtain ⟨t, e3, w3⟩ := open_type n f3 l3
    simp only [List.cons.injEq, and_true] at e0 e1 e2
    subst e0; subst e1; subst e2
    refine ⟨⟨a0, a1, a2, t⟩, ?_, w0, w1, w3⟩
    unfold ET.cells
    rw [← e3]
    rfl
theorem open_es {H : Type} {enc : TypeId × Value → H} {W : World} {a : Option Addr} {len cap : Nat} {d : DataW H} {p : List MemPlace}
    (h : DataW.Trod enc Try.prog W 0 (fun _ => true) true 22 (.slice a len cap) d p) (hl : Light 22 d) : ∃ f : Nat → ET, ELIn W.heap.size W ⟨a, len, cap, f⟩ := by
  obtain ⟨fuel, hf⟩ := h
  obtain ⟨a', n, cap', f, hcs, h1, h2⟩ := open_row (W := W) (⟨ByteArray.empty, ByteArray.empty, false, .nil⟩ : ET) ET.cells (fun e => EIn W.heap.size W e) 18 Try.underlying22 kEnt (by decide) (by decide +kernel) hf hl (fun n cs' x' _ h' hl' => open_ent h' hl')
  simp [Value.cells] at hcs
  obtain ⟨rfl, rfl, rfl⟩ := hcs
  exact ⟨f, ⟨Nat.le_refl _, Nat.le_trans h1.1 h1.2.1, fun e => ⟨(h1.2.2.1 e).1, (h1.2.2.1 e).1⟩, h1.2.2.2⟩, h2⟩
end Go.Proofs.Ytecedbjkebdeaaa

/-
  Package tags' laws: the places that are met; tags among rising ones.
-/
namespace Go.Proofs.Ytecedbjkebdeaaa
open Go.RowKit Go.Maps Go.WideElems Go.ChangeMaps Go.MapKept Go.Shelf
set_option linter.unusedVariables false
set_option linter.unusedSimpArgs false
set_option maxRecDepth 100000

theorem natsOf {xs : List Int} {n : Nat} (h : xs.Perm ((List.range n).map fun j => ((j : Nat) : Int))) : ∃ ys : List Nat, xs = ys.map (fun j => ((j : Nat) : Int)) ∧ ys.Perm (List.range n) := by
  refine ⟨xs.map Int.toNat, ?_, ?_⟩
  · rw [List.map_map]
    symm
    have : ∀ x ∈ xs, ((fun j : Nat => ((j : Nat) : Int)) ∘ Int.toNat) x = x := fun x hx => by
      obtain ⟨j, _, rfl⟩ := List.mem_map.1 (h.mem_iff.1 hx)
      simp
    calc xs.map ((fun j : Nat => ((j : Nat) : Int)) ∘ Int.toNat) = xs.map id := List.map_congr_left this
      _ = xs := List.map_id xs
  · have h2 := h.map Int.toNat
    rw [List.map_map] at h2
    have e : (Int.toNat ∘ fun j : Nat => ((j : Nat) : Int)) = id := by funext j; simp
    rw [e, List.map_id] at h2
    exact h2
/-- the places met so far -/
def metA (ys : List Nat) (n i : Nat) : Array Value := ((List.range n).map fun k => Value.bool (decide (k ∈ ys.take i))).toArray
theorem metA_zero (ys : List Nat) (n : Nat) : (metA ys n 0).toList = (List.range n).map fun _ => Value.bool false := by
  unfold metA
  simp
section
variable {ys : List Nat} {n i : Nat}
theorem met_lt (hp : ys.Perm (List.range n)) {y : Nat} (hy : ys[i]? = some y) : y < n := List.mem_range.1 (hp.mem_iff.1 (List.mem_of_getElem? hy))
theorem met_new (hp : ys.Perm (List.range n)) {y : Nat} (hy : ys[i]? = some y) : y ∉ ys.take i := by
  have hn : ys.Nodup := hp.nodup_iff.2 List.nodup_range
  obtain ⟨hi, he⟩ := List.getElem?_eq_some_iff.1 hy
  intro hm
  obtain ⟨j, hj, hje⟩ := List.mem_iff_getElem.1 hm
  rw [List.length_take] at hj
  rw [List.getElem_take] at hje
  have := (List.getElem_inj hn).1 (hje.trans he.symm)
  omega
theorem metA_get (hp : ys.Perm (List.range n)) {y : Nat} (hy : ys[i]? = some y) : (metA ys n i)[y]? = some (.bool false) := by
  unfold metA
  rw [List.getElem?_toArray, List.getElem?_map, List.getElem?_range (met_lt hp hy)]
  show some (Value.bool (decide (y ∈ ys.take i))) = _
  rw [decide_eq_false (met_new hp hy)]
theorem metA_set (hp : ys.Perm (List.range n)) {y : Nat} (hy : ys[i]? = some y) : (metA ys n i).setIfInBounds y (.bool true) = metA ys n (i + 1) := by
  have hlt := met_lt hp hy
  obtain ⟨hi, he⟩ := List.getElem?_eq_some_iff.1 hy
  apply Array.toList_inj.1
  rw [Array.toList_setIfInBounds]
  unfold metA
  apply List.ext_getElem?
  intro k
  rw [List.getElem?_set]
  by_cases e : y = k
  · subst e
    rw [if_pos rfl, List.getElem?_map, List.getElem?_range hlt]
    simp only [List.length_map, List.length_range, Option.map_some]
    rw [if_pos hlt, decide_eq_true]
    rw [List.take_add_one, hy]
    simp
  · rw [if_neg e, List.getElem?_map, List.getElem?_map]
    by_cases hk : k < n
    · rw [List.getElem?_range hk]
      show some (Value.bool _) = some (Value.bool _)
      have h2 : (k ∈ ys.take i) ↔ (k ∈ ys.take (i + 1)) := by
        rw [List.take_add_one, hy, List.mem_append]
        constructor
        · exact .inl
        · rintro (h | h)
          · exact h
          · rw [Option.toList_some, List.mem_singleton] at h
            exact absurd h.symm e
      rw [decide_eq_decide.2 h2]
    · simp [hk]
end
theorem info_bool : (Try.prog.info? 4).map (fun i => (i.zero, i.size, i.bytes)) = some (some (.bool false), 1, 1) := by kernel_rfl
theorem make_bools (n : Nat) (hn : n ≤ 1000000) : ∃ A : Array Value, A.toList = ((List.range n).map fun _ => Value.bool false) ∧ ∀ w, (Instr.makeSlice 39 (.int .i64 (n : Nat)) (.int .i64 (n : Nat))).run Try.prog w = .ok (.slice (some ⟨w.heap.size, 0, none⟩) n n) (w.alloc (.cells A 4)) := by
  obtain ⟨i0, hi0, hz0, hz1, hz2⟩ := info_parts info_bool
  refine ⟨madeCells #[.bool false] n, made_one _ _, fun w => ?_⟩
  have := run_make (P := Try.prog) w 39 4 i0 (.bool false) Try.underlying39 hi0 hz0 .i64 .i64 n n (by omega) (by omega) (by rw [hz2]; omega) (by omega)
  rw [this]
  simp only [Int.toNat_natCast, hz1, Nat.mul_one]
  rfl
theorem met_index (mb n y : Nat) (hy : y < n) : ∀ w, (Instr.indexAt 39 (.slice (some ⟨mb, 0, none⟩) n n) (.int .i64 (y : Nat))).run Try.prog w = .ok (.pointer (some ⟨mb, y, none⟩)) w := fun w => by
  rw [run_indexAt_slice (h := by rw [show Try.prog.elem 39 = 4 from by kernel_rfl]; exact Try.underlying39), if_pos (by omega), show Try.prog.elem 39 = 4 from by kernel_rfl, Try.sizeOf4]
  simp [Result.andThen, Addr.add_mid]
end Go.Proofs.Ytecedbjkebdeaaa

/-
  Tags, the document's: 'walk' whole, 'Of', 'part'.
-/
namespace Go.Proofs.Ytecedbjkebdeaaa
open Go.RowKit Go.Maps Go.WideElems Go.ChangeMaps Go.MapKept Go.Shelf
set_option linter.unusedVariables false
set_option linter.unusedSimpArgs false
set_option maxRecDepth 100000

theorem walk_step (l : EL) (hn : l.n ≤ 1000) (hz : ∀ p, p < l.n → (l.f p).t.sz ≤ 10000) (u s : Nat) (hs : s ≤ 10000) (IHu : ∀ u', u' + 1 ≤ u → WOK l u' 10000) (IHs : ∀ s', s' + 1 ≤ s → WOK l u s') : WOK l u s := by
  intro t a B w mv M hts hum ht hB hl hM
  by_cases h11 : t.kd = 11
  · exact walk_ref l t a B w mv M ht hB hl hn hM h11 (fun p hp hM0 W mv' hb hM' => by
      have hpn := (EL.fst_lt hp).1
      have hu := unmet_set hM0 l.n hpn
      exact IHu (unmet (metN M p) l.n) (by omega) (l.f p).t (l.f p).auto w.heap.size W mv' (metN M p) (hz p hpn) (Nat.le_refl _) ((hl.el.2 p hpn).2.2.below hb hB) hb.size (hl.below hb hB) hM')
  · by_cases h10 : t.kd = 10
    · have hnal : t.nal ≤ 10000 := Nat.le_trans t.nal_sz (Nat.le_trans hts hs)
      cases a with
      | true => exact walk_auto l t B w mv M ht hB hM h10 hnal
      | false =>
        obtain ⟨pa, pc, aa, ac, ea, ec, TC⟩ := ht.tcells
        exact walk_choice l t B w mv M ht hB hM h10 hnal (fun i hi W mv' M' hmo hb hM' => by
          have h1 := TT.alt_sz hi
          exact IHs (t.alt i).sz (by omega) (t.alt i) false w.heap.size W mv' M' (Nat.le_refl _) (Nat.le_trans (unmet_mono hmo l.n) hum) ((TC.al i hi).2.below hb hB) hb.size (hl.below hb hB) hM')
    · exact walk_leaf l t a B w mv M ht hB hM h11 h10
theorem walk_all (l : EL) (hn : l.n ≤ 1000) (hz : ∀ p, p < l.n → (l.f p).t.sz ≤ 10000) : ∀ u s, s ≤ 10000 → WOK l u s := by
  intro u
  induction u using Nat.strongRecOn with
  | ind u ihu =>
    intro s
    induction s using Nat.strongRecOn with
    | ind s ihs => exact fun hs => walk_step l hn hz u s hs (fun u' h => ihu u' (by omega) 10000 (Nat.le_refl _)) (fun s' h => ihs s' (by omega) (by omega))
/-- a row of truths that is made -/
theorem BRow.made (w : World) (n : Nat) (A : Array Value) (hA : A.toList = (List.range n).map fun _ => Value.bool false) : BRow (w.alloc (.cells A 4)) (.slice (some ⟨w.heap.size, 0, none⟩) n n) n (fun _ => false) := by
  refine ⟨_, _, rfl, Nat.le_refl _, .inr ⟨_, rfl, by simp, fun i hi => (Bx.new w A 4).cell i ?_⟩⟩
  rw [← Array.getElem?_toList, hA, List.getElem?_map, List.getElem?_range hi]
  rfl
theorem BRow.drew {w : World} {v : Value} {n : Nat} {M : Nat → Bool} (h : BRow w v n M) : BRow w.drew v n M := h
set_option maxHeartbeats 8000000 in
theorem rOf_ok (w : World) (l : EL) (a : Bool) (t : TT) (B : Nat) (hB : B ≤ w.heap.size) (hl : EOk B w l) (ht : TIn B w t) (hn : l.n ≤ 1000) (hz : ∀ p, p < l.n → (l.f p).t.sz ≤ 10000) (hw : t.sz ≤ 10000) :
    Calls Try.prog 49 #[.slice l.a l.n l.cap, .bool a, .agg t.cells.toArray] w fun e w' => ∃ (v : Value) (O : List Int), e = .returned v ∧ w'.ownsRow w.heap.size 3 1 v O.length (O.map (Value.int .i64)) ∧ (∀ x, x ∈ O ↔ Tg l a t x) ∧ O.length ≤ 20000 ∧ Below w.heap.size w w' := by
  obtain ⟨A, hA, hmk⟩ := make_bools l.n (by omega)
  have HBM := Lib.hid (fun W => BRow.made W l.n A hA)
  have HWA := Lib.hid (fun (W : World) (mv : Value) (hb : Below w.heap.size w W) (hM : BRow W mv l.n (fun _ => false)) => walk_all l hn hz l.n t.sz hw t a w.heap.size W mv (fun _ => false) (Nat.le_refl _) (unmet_le _ _) (ht.below hb hB) hb.size (hl.below hb hB) hM)
  obtain ⟨v0, v1, v2, v3, v4, v5, v6, v7, v8, v9, v10, v11, v12, v13, v14, hcs⟩ := list15 t.cells (one_tcells ht).1
  rw [hcs] at HWA ⊢
  have HX := Lib.hid (Bx.new w #[v0, v1, v2, v3, v4, v5, v6, v7, v8, v9, v10, v11, v12, v13, v14] 35)
  have HB0 := Lib.hid (show Below w.heap.size w (w.alloc (.cells #[v0, v1, v2, v3, v4, v5, v6, v7, v8, v9, v10, v11, v12, v13, v14] 35)) from (Below.refl w.heap.size w).alloc (Nat.le_refl _) _)
  obtain ⟨N, hN⟩ : ∃ N, l.n = N := ⟨_, rfl⟩
  have HNN := Lib.hid hN
  rw [hN] at hmk HBM HWA ⊢
  clear hB hl ht hz hw hcs hA hN
  go_enter Try.func49, Try.ntmps49
  go_wp2_with fail
  obtain ⟨W0, hW0⟩ : ∃ W0, w.alloc (.cells #[v0, v1, v2, v3, v4, v5, v6, v7, v8, v9, v10, v11, v12, v13, v14] 35) = W0 := ⟨_, rfl⟩
  rw [hW0] at HX HB0 ⊢
  clear hW0
  have HSS := Lib.hid (show ∀ w', Below W0.heap.size W0 w' → (w'.cell? ⟨w.heap.size, 0, none⟩ = some v0 ∧ w'.cell? ⟨w.heap.size, 1, none⟩ = some v1 ∧ w'.cell? ⟨w.heap.size, 2, none⟩ = some v2 ∧ w'.cell? ⟨w.heap.size, 3, none⟩ = some v3 ∧ w'.cell? ⟨w.heap.size, 4, none⟩ = some v4 ∧ w'.cell? ⟨w.heap.size, 5, none⟩ = some v5 ∧ w'.cell? ⟨w.heap.size, 6, none⟩ = some v6 ∧ w'.cell? ⟨w.heap.size, 7, none⟩ = some v7 ∧ w'.cell? ⟨w.heap.size, 8, none⟩ = some v8 ∧ w'.cell? ⟨w.heap.size, 9, none⟩ = some v9 ∧ w'.cell? ⟨w.heap.size, 10, none⟩ = some v10 ∧ w'.cell? ⟨w.heap.size, 11, none⟩ = some v11 ∧ w'.cell? ⟨w.heap.size, 12, none⟩ = some v12 ∧ w'.cell? ⟨w.heap.size, 13, none⟩ = some v13 ∧ w'.cell? ⟨w.heap.size, 14, none⟩ = some v14) from fun w' hb =>
    have h := HX.out.below hb HX.out.lt
    ⟨h.cell 0 rfl, h.cell 1 rfl, h.cell 2 rfl, h.cell 3 rfl, h.cell 4 rfl, h.cell 5 rfl, h.cell 6 rfl, h.cell 7 rfl, h.cell 8 rfl, h.cell 9 rfl, h.cell 10 rfl, h.cell 11 rfl, h.cell 12 rfl, h.cell 13 rfl, h.cell 14 rfl⟩)
  have HBX0 := Lib.hid (Below.drew (Below.refl W0.heap.size W0))
  have HS0 := Lib.hid (HSS.out _ HBX0.out)
  have HBX1 := Lib.hid (show Below W0.heap.size W0 (W0.alloc (.cells A 4)).drew from Below.drew ((Below.refl W0.heap.size W0).alloc (Nat.le_refl _) _))
  have HS1 := Lib.hid (HSS.out _ HBX1.out)
  have HCC := Lib.hid (HWA.out _ (.slice (some ⟨W0.heap.size, 0, none⟩) N N) (HB0.out.trans (HBX1.out.mono HB0.out.size)) (BRow.drew (HBM.out W0)))
  go_region_held3 (fun w' => w'.cell? ⟨w.heap.size, 0, none⟩ = some v0 ∧ w'.cell? ⟨w.heap.size, 1, none⟩ = some v1 ∧ w'.cell? ⟨w.heap.size, 2, none⟩ = some v2 ∧ w'.cell? ⟨w.heap.size, 3, none⟩ = some v3 ∧ w'.cell? ⟨w.heap.size, 4, none⟩ = some v4 ∧ w'.cell? ⟨w.heap.size, 5, none⟩ = some v5 ∧ w'.cell? ⟨w.heap.size, 6, none⟩ = some v6 ∧ w'.cell? ⟨w.heap.size, 7, none⟩ = some v7 ∧ w'.cell? ⟨w.heap.size, 8, none⟩ = some v8 ∧ w'.cell? ⟨w.heap.size, 9, none⟩ = some v9 ∧ w'.cell? ⟨w.heap.size, 10, none⟩ = some v10 ∧ w'.cell? ⟨w.heap.size, 11, none⟩ = some v11 ∧ w'.cell? ⟨w.heap.size, 12, none⟩ = some v12 ∧ w'.cell? ⟨w.heap.size, 13, none⟩ = some v13 ∧ w'.cell? ⟨w.heap.size, 14, none⟩ = some v14) (first | with_reducible exact HS2.out | with_reducible exact HS1.out | with_reducible exact HS0.out | exact HS1.out) (first | (go_at_call 58; (refine HCC.out.mono ?_); rintro e w4 ⟨ov, mv4, O, M4, rfl, h1, h2, h3, h4⟩; have HO4 := Lib.hid h1; have HW4 := Lib.hid h3; have HBX2 := Lib.hid (HBX1.out.trans (h4.mono HBX1.out.size)); have HS2 := Lib.hid (HSS.out _ HBX2.out); clear h1 h2 h3 h4))
  all_goals go_wp2_with fail
  all_goals go_ret
  all_goals exact ⟨_, O, rfl, ownsRow_base_a HO4.out (by have h1 := HB0.out.size; have h2 := HBX1.out.size; omega), HW4.out.all (fun _ => rfl), HW4.out.len, HB0.out.trans (HBX2.out.mono HB0.out.size)⟩
/-- the tags of a part -/
def PartT (l : EL) (a : Bool) (t : TT) (i : Nat) (x : Int) : Prop := (a = true ∧ x = 1000 + (i : Int)) ∨ (a = false ∧ Tg l false (t.alt i) x)
set_option maxHeartbeats 8000000 in
theorem part_ok (w : World) (l : EL) (a : Bool) (t : TT) (B base : Nat) (al : Option Addr) (cl i : Nat) (hB : B ≤ w.heap.size) (hl : EOk B w l) (hT : TIn B w (t.alt i)) (hn : l.n ≤ 1000) (hz : ∀ p, p < l.n → (l.f p).t.sz ≤ 10000) (hw : (t.alt i).sz ≤ 10000) (hi : i ≤ 100000) (N : Nat)
    (hr : ∃ g o, (∀ w, (Instr.indexAt 32 (.slice al N cl) (.int .i64 (i : Nat))).run Try.prog w = .ok (.pointer (some ⟨g, o, none⟩)) w) ∧ w.rangeAt g o (pcells (t.ald i) (t.alt i))) :
    Calls Try.prog 32 #[.slice l.a l.n l.cap, .bool a, .slice al N cl, .int .i64 (i : Nat)] w fun e w' => ∃ (v : Value) (O : List Int), e = .returned v ∧ w'.ownsRow w.heap.size 3 1 v O.length (O.map (Value.int .i64)) ∧ (∀ x, x ∈ O ↔ PartT l a t i x) ∧ O.length ≤ 20000 ∧ Below w.heap.size w w' := by
  have q6 : IntKind.i64.wrap ((1000 : Int) + (i : Int)) = 1000 + (i : Int) := wrap_ok (by unfold I64; omega)
  cases a with
  | true =>
    have HB0 := Lib.hid (show Below w.heap.size w (w.alloc (.cells #[.int .i64 (1000 + (i : Int))] 3)) from (Below.refl w.heap.size w).alloc (Nat.le_refl _) _)
    have HO := Lib.hid (World.ownsRow_lit (base := w.heap.size) (e := 3) (size := 1) w #[.int .i64 (1000 + (i : Int))] 1 (Nat.le_refl _) (by unfold maxLen; omega) (by rfl))
    clear hr hT hl hz
    go_enter Try.func32, Try.ntmps32
    go_wp2_with fail
    go_ret
    refine ⟨_, rfl, [1000 + (i : Int)], HO.out, fun x => ?_, by show 1 ≤ 20000; omega, HB0.out⟩
    rw [List.mem_singleton]
    constructor
    · exact fun h => .inl ⟨rfl, h⟩
    · rintro (⟨_, h⟩ | ⟨h, _⟩)
      · exact h
      · cases h
  | false =>
    obtain ⟨g, o, hix, hrg⟩ := hr
    have H1T := Lib.hid (one_tcells hT)
    have HRT := Lib.hid (part_range hrg)
    have HOF := Lib.hid (rOf_ok w l false (t.alt i) B hB hl hT hn hz hw)
    clear hrg hT hl hz q6
    go_enter Try.func32, Try.ntmps32
    go_wp2_with (refine wpList_load_mid rfl 35 (.tmp 18) rfl g (o + 1) rfl (t.alt i).cells _ HRT.out Try.underlying35 rfl (by rw [info_T, H1T.out.1]) ?_)
    refine HOF.out.mono ?_
    rintro e w1 ⟨v, O, rfl, h1, h2, h3, h4⟩
    have H1 := Lib.hid h1
    have H2 := Lib.hid h2
    have H3 := Lib.hid h3
    have H4 := Lib.hid h4
    clear h1 h2 h3 h4
    go_wp2_with fail
    go_ret
    refine ⟨_, O, rfl, H1.out, fun x => ?_, H3.out, H4.out⟩
    rw [H2.out x]
    constructor
    · exact fun h => .inr ⟨rfl, h⟩
    · rintro (⟨h, _⟩ | ⟨_, h⟩)
      · cases h
      · exact h
end Go.Proofs.Ytecedbjkebdeaaa

/-
  Tags, the document's: 'right'.
-/
namespace Go.Proofs.Ytecedbjkebdeaaa
open Go.RowKit Go.Maps Go.WideElems Go.ChangeMaps Go.MapKept Go.Shelf
set_option linter.unusedVariables false
set_option linter.unusedSimpArgs false
set_option maxRecDepth 100000

/-- whether all lies apart that must, as the document's 'right' tells it -/
def RtA (l : EL) (a : Bool) (t : TT) : Prop := a = true ∨ Rt l t
def NoMeet (l : EL) (a : Bool) (t : TT) (k i : Nat) : Prop := ¬ ∃ x, PartT l a t i x ∧ PartT l a t k x
def mustO (t : TT) (k i : Nat) : Prop := ∀ j, k ≤ j → j < i → t.out j = true
def Kd2 (t : TT) : Prop := t.kd = 10 ∨ t.kd = 8
theorem RtA.alt {l : EL} {a : Bool} {t : TT} {i : Nat} (h : RtA l a t) (hi : i < t.nal) : RtA l a (t.alt i) := h.imp id fun h => (Rt.iff.1 h).1 i hi
theorem RtA.et {l : EL} {a : Bool} {t : TT} {i : Nat} (h : RtA l a t) (hi : i < t.en) : RtA l a (t.et i) := h.imp id fun h => (Rt.iff.1 h).2.1 i hi
theorem mustO.must {t : TT} {k i : Nat} (hk : Kd2 t) : mustO t k i ↔ t.must k i := by
  constructor
  · exact fun h j h1 h2 => by rw [TT.stays_out hk]; exact h j h1 h2
  · exact fun h j h1 h2 => by rw [← TT.stays_out hk]; exact h j h1 h2
theorem NoMeet.auto (l : EL) (t : TT) {k i : Nat} (h : k ≠ i) : NoMeet l true t k i := by
  rintro ⟨x, h1 | h1, h2 | h2⟩
  · have := h1.2; have := h2.2; omega
  · cases h2.1
  · cases h1.1
  · cases h1.1
theorem RtA.pair {l : EL} {a : Bool} {t : TT} {k i : Nat} (h : RtA l a t) (hk : Kd2 t) (hki : k < i) (hi : i < t.nal) (hm : mustO t k i) : NoMeet l a t k i := by
  cases a with
  | true => exact NoMeet.auto l t (by omega)
  | false =>
    rcases h with h | h
    · cases h
    · rintro ⟨x, h1 | h1, h2 | h2⟩
      · cases h1.1
      · cases h1.1
      · cases h2.1
      · exact (Rt.iff.1 h).2.2 k i hki hi ((mustO.must hk).1 hm) x ⟨h2.2, h1.2⟩
structure RI (l : EL) (a : Bool) (t : TT) (i : Nat) : Prop where
  rt : ∀ j, j < i → RtA l a (t.alt j)
  pr : Kd2 t → ∀ k j, k < j → j < i → mustO t k j → NoMeet l a t k j
theorem RI.start (l : EL) (a : Bool) (t : TT) : RI l a t 0 := ⟨fun j hj => absurd hj (Nat.not_lt_zero j), fun _ k j _ hj => absurd hj (Nat.not_lt_zero j)⟩
structure RK (l : EL) (a : Bool) (t : TT) (i : Nat) (x : Int) : Prop where
  pr : Kd2 t → ∀ k : Nat, x < (k : Int) → k < i → mustO t k i → NoMeet l a t k i
  ou : 0 ≤ x → ∀ j : Nat, x < (j : Int) → j < i → t.out j = true
theorem RK.start (l : EL) (a : Bool) (t : TT) (i : Nat) : RK l a t i ((i : Int) - 1) := ⟨fun _ k h1 h2 => by omega, fun _ j h1 h2 => by omega⟩
theorem RK.must {l : EL} {a : Bool} {t : TT} {i k : Nat} (h : RK l a t i (k : Int)) (ho : t.out k = true) : mustO t k i := fun j h1 h2 => by
  rcases Nat.lt_or_ge k j with h3 | h3
  · exact h.ou (by omega) j (by omega) h2
  · obtain rfl : j = k := by omega
    exact ho
theorem RK.next {l : EL} {a : Bool} {t : TT} {i k : Nat} (h : RK l a t i (k : Int)) (ho : t.out k = true) (hn : Kd2 t → NoMeet l a t k i) : RK l a t i ((k : Int) - 1) where
  pr := fun hk k' h1 h2 hm => by
    rcases Nat.lt_or_ge k k' with h3 | h3
    · exact h.pr hk k' (by omega) h2 hm
    · obtain rfl : k' = k := by omega
      exact hn hk
  ou := fun h0 j h1 h2 => by
    rcases Nat.lt_or_ge k j with h3 | h3
    · exact h.ou (by omega) j (by omega) h2
    · obtain rfl : j = k := by omega
      exact ho
theorem RK.stop {l : EL} {a : Bool} {t : TT} {i k : Nat} (h : RK l a t i (k : Int)) (hki : k < i) (ho : t.out k = false) : RK l a t i (-1) where
  pr := fun hk k' h1 h2 hm => by
    rcases Nat.lt_or_ge k k' with h3 | h3
    · exact h.pr hk k' (by omega) h2 hm
    · have := hm k h3 hki
      rw [ho] at this
      cases this
  ou := fun h0 => by omega
theorem RI.next {l : EL} {a : Bool} {t : TT} {i : Nat} (h : RI l a t i) (hr : RtA l a (t.alt i)) (hk : RK l a t i (-1)) : RI l a t (i + 1) where
  rt := fun j hj => by
    rcases Nat.lt_or_ge j i with h1 | h1
    · exact h.rt j h1
    · obtain rfl : j = i := by omega
      exact hr
  pr := fun hkk k j hkj hj hm => by
    rcases Nat.lt_or_ge j i with h1 | h1
    · exact h.pr hkk k j hkj h1 hm
    · obtain rfl : j = i := by omega
      exact hk.pr hkk k (by omega) hkj hm
theorem RI.done {l : EL} {a : Bool} {t : TT} (h : RI l a t t.nal) (he : ∀ j, j < t.en → RtA l a (t.et j)) : RtA l a t := by
  cases a with
  | true => exact .inl rfl
  | false =>
    refine .inr (Rt.iff.2 ⟨fun i hi => (h.rt i hi).resolve_left (by nofun), fun i hi => (he i hi).resolve_left (by nofun), fun k i hki hi hm => ?_⟩)
    have h0 := hm k (Nat.le_refl _) hki
    have hk : Kd2 t := by
      unfold TT.stays at h0
      by_cases h10 : t.kd = 10
      · exact .inl h10
      · rw [if_neg h10] at h0
        by_cases h8 : t.kd = 8
        · exact .inr h8
        · rw [if_neg h8] at h0; cases h0
    intro x hx
    exact h.pr hk k i hki hi ((mustO.must hk).2 hm) ⟨x, .inr ⟨rfl, hx.2⟩, .inr ⟨rfl, hx.1⟩⟩
set_option maxHeartbeats 32000000 in
theorem right_step (l : EL) (hn : l.n ≤ 1000) (hz : ∀ p, p < l.n → (l.f p).t.sz ≤ 10000) (t : TT) (a : Bool) (B : Nat) (w : World) (ht : TIn B w t) (hB : B ≤ w.heap.size) (hl : EOk B w l) (hs : t.sz ≤ 10000)
    (IA : ∀ i, i < t.nal → ∀ (W : World), Below w.heap.size w W → Calls Try.prog 17 #[.slice l.a l.n l.cap, .bool a, .agg (t.alt i).cells.toArray] W fun e w' => (∃ b, e = .returned (.bool b) ∧ (b = true ↔ RtA l a (t.alt i))) ∧ Below W.heap.size W w')
    (IE : ∀ i, i < t.en → ∀ (W : World), Below w.heap.size w W → Calls Try.prog 17 #[.slice l.a l.n l.cap, .bool a, .agg (t.et i).cells.toArray] W fun e w' => (∃ b, e = .returned (.bool b) ∧ (b = true ↔ RtA l a (t.et i))) ∧ Below W.heap.size W w') :
    Calls Try.prog 17 #[.slice l.a l.n l.cap, .bool a, .agg t.cells.toArray] w fun e w' => (∃ b, e = .returned (.bool b) ∧ (b = true ↔ RtA l a t)) ∧ Below w.heap.size w w' := by
  have hnal : t.nal ≤ 10000 := Nat.le_trans t.nal_sz hs
  obtain ⟨i0, hi0, hz0, hz1, hz2⟩ := info_parts info_Pz
  obtain ⟨pa, pc, aa, ac, ea, ec, TC⟩ := ht.tcells
  have HXN := Lib.hid (Bx.new w t.cells.toArray 35)
  have c0 := HXN.out.cell 0 TC.kd
  have c12 := HXN.out.cell 12 TC.ps
  have c13 := HXN.out.cell 13 TC.ads
  have HB0 := Lib.hid (show Below w.heap.size w (w.alloc (.cells t.cells.toArray 35)) from (Below.refl w.heap.size w).alloc (Nat.le_refl _) _)
  have hlf := fun i (hi : i < t.pn) => (one_pcells (p := t.ald i) (TC.al i (by unfold TT.nal; omega)).2)
  have hlg := fun i (hi : i < t.an) => (one_pcells (p := t.ald (t.pn + i)) (TC.al (t.pn + i) (by unfold TT.nal; omega)).2)
  have hl1 := flat_len (fun i hi => (hlf i hi).1)
  have hl2 := flat_len (fun i hi => (hlg i hi).1)
  have ho1 := flat_one (fun i hi => (hlf i hi).2)
  have ho2 := flat_one (fun i hi => (hlg i hi).2)
  have hn1 := row_news TC.pr (fun i hi => (hlf i hi).1)
  have hn2 := row_news TC.ar (fun i hi => (hlg i hi).1)
  have hfin : ∀ (BASE : Nat) (W : World) (v : Value), W.ownsRow BASE 42 18 v (0 + t.pn + t.an) ([] ++ flat (fun i => pcells (t.ald i) (t.alt i)) t.pn ++ flat (fun i => pcells (t.ald (t.pn + i)) (t.alt (t.pn + i))) t.an) → PRow BASE W v t.nal (fun i => pcells (t.ald i) (t.alt i)) := fun BASE W v h => by
    rw [List.nil_append, flat_add, Nat.zero_add] at h
    refine (PRow.of (fun i hi => ?_) h).congr (fun i hi => ?_)
    · split
      · exact (hlf i (by assumption)).1
      · exact (hlg _ (by omega)).1
    · split
      · rfl
      · rw [show t.pn + (i - t.pn) = i by omega]
  obtain ⟨F1, hF1⟩ : ∃ F, flat (fun i => pcells (t.ald i) (t.alt i)) t.pn = F := ⟨_, rfl⟩
  obtain ⟨F2, hF2⟩ : ∃ F, flat (fun i => pcells (t.ald (t.pn + i)) (t.alt (t.pn + i))) t.an = F := ⟨_, rfl⟩
  rw [hF1] at hl1 ho1 hn1 hfin
  rw [hF2] at hl2 ho2 hn2 hfin
  obtain ⟨N, hN⟩ : ∃ N, t.nal = N := ⟨_, rfl⟩
  have hpa : t.pn + t.an = N := hN
  have HAL := Lib.hid TC.al
  rw [hN] at hfin HAL hnal
  have HNN := Lib.hid hN
  obtain ⟨pn, hpn⟩ : ∃ pn, t.pn = pn := ⟨_, rfl⟩
  obtain ⟨an, han⟩ : ∃ an, t.an = an := ⟨_, rfl⟩
  rw [hpn] at c12 hl1 hn1 hfin hpa
  rw [han] at c13 hl2 hn2 hfin hpa
  have HL1 := Lib.hid hl1
  have HL2 := Lib.hid hl2
  have HO1 := Lib.hid ho1
  have HO2 := Lib.hid ho2
  have HN2 := Lib.hid (show ∀ W, Below w.heap.size w W → (aa = none ∧ an = 0 ∧ ac = 0) ∨ ∃ d, aa = some d ∧ ∀ j u, F2[j]? = some u → W.cell? (d.add j) = some u from fun W hb => hn2.imp id (fun ⟨d, h1, h2⟩ => ⟨d, h1, h2 W (hb.mono hB)⟩))
  have HN1A := Lib.hid (show ∀ W, Below w.heap.size w W → (pa = none ∧ pn = 0 ∧ pc = 0) ∨ ∃ d, pa = some d ∧ ∀ j u, F1[j]? = some u → W.cell? (d.add j) = some u from fun W hb => hn1.imp id (fun ⟨d, h1, h2⟩ => ⟨d, h1, h2 W (hb.mono hB)⟩))
  have HFIN := Lib.hid hfin
  have HER := Lib.hid TC.er
  have HEL := Lib.hid TC.el
  have c14 := HXN.out.cell 14 TC.es
  have HSA := Lib.hid (show ∀ i, i < t.nal → (t.alt i).sz ≤ 10000 from fun i hi => by have := TT.alt_sz hi; omega)
  obtain ⟨kd, hkd⟩ : ∃ kd, t.kd = kd := ⟨_, rfl⟩
  obtain ⟨en, hen⟩ : ∃ en, t.en = en := ⟨_, rfl⟩
  have HKD := Lib.hid hkd
  have HPN := Lib.hid hpn
  have HEN := Lib.hid hen
  rw [hkd] at c0
  rw [hen] at c14 HER
  have hen2 : en ≤ 10000 := by
    have h1 := t.sz_eq
    have h2 := sumW_ge (f := fun i => (t.et i).sz) (n := t.en) (fun i _ => (t.et i).sz_pos)
    omega
  have HIA := Lib.hid IA
  have HIE := Lib.hid IE
  have HL := Lib.hid (fun (W : World) (hb : Below w.heap.size w W) => hl.below hb hB)
  have HZ := Lib.hid hz
  have HTA := Lib.hid (show ∀ i, i < N → ∀ W, Below w.heap.size w W → TIn w.heap.size W (t.alt i) from fun i hi W hb => (HAL.out i hi).2.below hb hB)
  have HBW := Lib.hid hB
  clear TC ht hlf hlg hl1 hl2 ho1 ho2 hn1 hn2 hfin hF1 hF2 hN hpn han IA IE hl hz hkd hen hs
  go_enter Try.func17, Try.ntmps17
  go_wp2_with fail
  obtain ⟨W0, hW0⟩ : ∃ W0, w.alloc (.cells t.cells.toArray 35) = W0 := ⟨_, rfl⟩
  rw [hW0] at c0 c12 c13 c14 HXN HB0 ⊢
  clear hW0
  have hs0 : w.heap.size ≤ W0.heap.size := HB0.out.size
  have HO0 := Lib.hid (World.ownsRow_lit (base := W0.heap.size) (e := 42) (size := 18) W0 #[] 0 (Nat.le_refl _) (by unfold maxLen; omega) (by rfl))
  have HO0L := Lib.hid (show ∀ j, (Value.slice (some ⟨W0.heap.size, 0, none⟩) 0 0).ownBlock = some j → W0.heap.size ≤ j from fun j hj => by cases hj; exact Nat.le_refl _)
  have HB00 := Lib.hid (show Below W0.heap.size W0 (W0.alloc (.cells #[] 42)).drew from Below.drew ((Below.refl _ W0).alloc (Nat.le_refl _) _))
  have HB0W := Lib.hid HB00.out
  have HSW := Lib.hid HB0W.out.size
  have HS0 := Lib.hid HB00.out.size
  have HN1 := Lib.hid (HN1A.out _ (HB0.out.trans (HB00.out.mono hs0)))
  have HN2W := Lib.hid (fun W (hb : Below W0.heap.size W0 W) => HN2.out W (HB0.out.trans (hb.mono hs0)))
  have HBX := Lib.hid (show ∀ W, Below W0.heap.size W0 W → W.cell? ⟨w.heap.size, 13, none⟩ = some (.slice aa an ac) from fun W hb => (hb.cell (p := ⟨w.heap.size, 13, none⟩) HXN.out.lt).trans c13)
  have HBY := Lib.hid (show ∀ W, Below W0.heap.size W0 W → W.cell? ⟨w.heap.size, 12, none⟩ = some (.slice pa pn pc) ∧ W.cell? ⟨w.heap.size, 0, none⟩ = some (.int .i64 kd) ∧ W.cell? ⟨w.heap.size, 14, none⟩ = some (.slice ea en ec) from fun W hb => ⟨(hb.cell (p := ⟨w.heap.size, 12, none⟩) HXN.out.lt).trans c12, (hb.cell (p := ⟨w.heap.size, 0, none⟩) HXN.out.lt).trans c0, (hb.cell (p := ⟨w.heap.size, 14, none⟩) HXN.out.lt).trans c14⟩)
  have k12a := (HBY.out _ HB0W.out).1
  have k13a := HBX.out _ HB0W.out
  go_cut [7] from 12 to 18 (fun v wx => PRow W0.heap.size wx v N (fun i => pcells (t.ald i) (t.alt i)) ∧ Below W0.heap.size W0 wx)
  case first =>
    go_region_law (first | (refine step_append_row (by rfl) (.tmp 15) (.tmp 17) 32 (by rfl) W0.heap.size 42 i0 zeroP 18 272 Try.underlying32 hi0 hz0 hz1 hz2 (by rfl) (by decide) v1 (0 + pn) ([] ++ F1) (by rfl) HOA.out aa an ac F2 (by rfl) HL2.out (HN2W.out _ HBA.out) HO2.out (by unfold maxLen; omega) (by omega) HBA.out.size ?_; intro v2 w5 ho hg; have HOB := Lib.hid ho; have HBB := Lib.hid (show Below W0.heap.size W0 w5 from HBA.out.grown hg HBA.out.size (fun j hj => (HOA.out.lt j hj).1)); clear ho hg) | (refine step_append_row (by rfl) (.tmp 12) (.tmp 14) 32 (by rfl) W0.heap.size 42 i0 zeroP 18 272 Try.underlying32 hi0 hz0 hz1 hz2 (by rfl) (by decide) _ 0 [] (by rfl) HO0.out pa pn pc F1 (by rfl) HL1.out HN1.out HO1.out (by unfold maxLen; omega) (by omega) HS0.out ?_; intro v1 w4 ho hg; have HOA := Lib.hid ho; have HBA := Lib.hid (show Below W0.heap.size W0 w4 from HB00.out.grown hg HS0.out (fun j hj => (HO0.out.lt j hj).1)); have k13 := (HBX.out w4 (show Below W0.heap.size W0 w4 from HB0W.out.grown hg HSW.out (fun j hj => HO0L.out j hj))); clear ho hg))
    all_goals go_wp2_with fail
    all_goals go_meet
    all_goals exact ⟨HFIN.out _ _ _ HOB.out, HBB.out⟩
  obtain ⟨hpr, hbx⟩ := hcut
  obtain ⟨al, cl, rfl, hncl, hpr⟩ := hpr
  rename World => WA
  have HPR := Lib.hid hpr
  have HWA := Lib.hid hbx
  have HBA := Lib.hid (HB0.out.trans (hbx.mono hs0))
  clear hpr hbx c0 c12 c13 c14 k12a k13a HO0 HO0L HB00 HB0W HSW HS0 HN1 HBX HXN HN2 HN2W HN1A HL1 HL2 HO1 HO2 HFIN
  have HROW := Lib.hid (show ∀ i, i < N → ∃ g o, (∀ w, (Instr.indexAt 32 (.slice al N cl) (.int .i64 (i : Nat))).run Try.prog w = .ok (.pointer (some ⟨g, o, none⟩)) w) ∧ ∀ W, Below WA.heap.size WA W → W.rangeAt g o (pcells (t.ald i) (t.alt i)) from fun i hi => by
    obtain ⟨g, o, h1, _, h3, h4⟩ := HPR.out i hi
    exact ⟨g, o, h1, fun W hb j v hv => (hb.cell (p := ⟨g, o + j, none⟩) h3).trans (h4 j v hv)⟩)
  clear HPR
  go_wp2_with fail
  go_loopw [8] (fun iv wr => ∃ i : Nat, i ≤ N ∧ iv = .int .i64 (i : Nat) ∧ RI l a t i ∧ Below WA.heap.size WA wr) (fun iv _ => N - (Lib.intOf iv).toNat)
  case atStart => exact ⟨0, Nat.zero_le _, rfl, RI.start l a t, Below.refl _ _⟩
  case round =>
  rename World => wR
  obtain ⟨i, hi, rfl, hri, hbr⟩ := hrel
  have HRI := Lib.hid hri
  have HBR := Lib.hid hbr
  have HWR := Lib.hid (HBA.out.trans (hbr.mono HBA.out.size))
  clear hri hbr
  by_cases hlt : i < N
  · have q4 : decide ((i : Int) < (N : Int)) = true := decide_eq_true (by omega)
    have q4n : decide (i < N) = true := decide_eq_true hlt
    have q5 : IntKind.i64.wrap ((i : Int) + 1) = ((i + 1 : Nat) : Int) := wrap_succ hlt (by omega)
    obtain ⟨gx, ox, hix, hrd⟩ := HROW.out i hlt
    have hil : i < t.nal := by rw [HNN.out]; exact hlt
    have H1T := Lib.hid (one_tcells (HAL.out i hlt).2)
    have HRT := Lib.hid (part_range (hrd wR HBR.out))
    have HC := Lib.hid (HIA.out i hil wR HWR.out)
    have HRD := Lib.hid hrd
    clear hrd
    go_wp2_with (refine wpList_load_mid rfl 35 (.tmp 30) rfl gx (ox + 1) rfl (t.alt i).cells _ HRT.out Try.underlying35 rfl (by rw [info_T, H1T.out.1]) ?_)
    refine HC.out.mono ?_
    rintro e wB ⟨⟨b, rfl, hb⟩, h2⟩
    have HBB := Lib.hid (HBR.out.trans (h2.mono HBR.out.size))
    have HRB := Lib.hid hb
    clear h2 hb HRT HC
    cases b with
    | false =>
      have HNO := Lib.hid (show ¬ RtA l a t from fun h => by have h3 := HRB.out.2 (h.alt hil); cases h3)
      go_wp2_with fail
      go_ret
      exact ⟨⟨false, rfl, fun h => (by cases h), fun h => absurd h HNO.out⟩, HBA.out.trans (HBB.out.mono HBA.out.size)⟩
    | true =>
    have HRTI := Lib.hid (HRB.out.1 rfl)
    obtain ⟨z0, hz0'⟩ : ∃ z0 : Int, (i : Int) - 1 = z0 := ⟨_, rfl⟩
    have q6 : IntKind.i64.wrap ((i : Int) - 1) = z0 := by rw [wrap_ok (by unfold I64; omega)]; exact hz0'
    have HZ0 := Lib.hid hz0'
    clear hz0'
    go_wp2_with fail
    go_loopw [9] (fun kv wr => ∃ x : Int, kv = .int .i64 x ∧ -1 ≤ x ∧ x < (i : Int) ∧ RK l a t i x ∧ Below WA.heap.size WA wr) (fun kv _ => ((Lib.intOf kv) + 1).toNat)
    case atStart =>
      have h := RK.start l a t i
      rw [HZ0.out] at h
      exact ⟨z0, rfl, by have := HZ0.out; omega, by have := HZ0.out; omega, h, HBB.out⟩
    case round =>
    rename World => wK
    obtain ⟨x, rfl, hx1, hx2, hrk, hbk⟩ := hrel
    have HRK := Lib.hid hrk
    have HBK := Lib.hid hbk
    have HWK := Lib.hid (HBA.out.trans (hbk.mono HBA.out.size))
    have hcK := HBY.out wK (HWA.out.trans (hbk.mono HWA.out.size))
    clear hrk hbk
    by_cases hx0 : 0 ≤ x
    · obtain ⟨k, rfl⟩ : ∃ k : Nat, x = (k : Int) := ⟨x.toNat, by omega⟩
      have hki : k < i := by omega
      have q7 : decide ((0 : Int) ≤ (k : Int)) = true := decide_eq_true (by omega)
      have hkN : k < N := by omega
      obtain ⟨gk, ok, hixk, hrdk⟩ := HROW.out k hkN
      have hrk2 := hrdk wK HBK.out
      have hpc := pcells_at (p := t.ald k) (HAL.out k hkN).2
      rw [List.getElem?_toArray, List.getElem?_toArray] at hpc
      have e16 := hrk2 16 _ hpc.1
      have e17 := hrk2 17 _ hpc.2
      have e12 := hcK.1
      have e0 := hcK.2.1
      have HRDK := Lib.hid hrdk
      have hout : t.out k = ((kd == 10) || ((t.ald k).opt || decide (0 < (t.ald k).d.n) || decide (pn ≤ k))) := by
        unfold TT.out TT.opt
        rw [HKD.out, HPN.out]
      obtain ⟨op, hop⟩ : ∃ op, (t.ald k).opt = op := ⟨_, rfl⟩
      obtain ⟨da, hda⟩ : ∃ da, (t.ald k).d.a = da := ⟨_, rfl⟩
      obtain ⟨dn, hdn⟩ : ∃ dn, (t.ald k).d.n = dn := ⟨_, rfl⟩
      obtain ⟨dc, hdc⟩ : ∃ dc, (t.ald k).d.cap = dc := ⟨_, rfl⟩
      rw [hop] at e16 hout
      rw [hda, hdn, hdc] at e17
      rw [hdn] at hout
      obtain ⟨ou, hou⟩ : ∃ ou, t.out k = ou := ⟨_, rfl⟩
      have HOU := Lib.hid hou
      rw [hou] at hout
      clear hpc hrk2 hrdk hop hda hdn hdc hou hcK
      go_upto_region 10 with fail
      go_cut [10] from 40 to 65 (fun v wx => v = .bool ou ∧ wK = wx)
      case first =>
        by_cases h10 : kd = 10
        · have qk : (kd == 10) = true := by rw [h10]; rfl
          rw [qk, Bool.true_or] at hout
          subst hout
          clear h10
          go_wp2_with fail
          go_meet
          exact ⟨rfl, rfl⟩
        have qk : (kd == 10) = false := beq_eq_false_iff_ne.2 h10
        rw [qk, Bool.false_or] at hout
        clear h10
        by_cases hpk : pn ≤ k
        · have qp : decide ((pn : Int) ≤ (k : Int)) = true := decide_eq_true (by omega)
          have qpn : decide (pn ≤ k) = true := decide_eq_true hpk
          rw [qpn, Bool.or_true] at hout
          subst hout
          clear hpk
          go_wp2_with fail
          go_meet
          exact ⟨rfl, rfl⟩
        have qp : decide ((pn : Int) ≤ (k : Int)) = false := decide_eq_false (by omega)
        have qpn : decide (pn ≤ k) = false := decide_eq_false hpk
        rw [qpn, Bool.or_false] at hout
        clear hpk
        cases op with
        | true =>
          rw [Bool.true_or] at hout
          subst hout
          go_wp2_with fail
          go_meet
          exact ⟨rfl, rfl⟩
        | false =>
        rw [Bool.false_or] at hout
        obtain ⟨db, hdb⟩ : ∃ db, decide (0 < dn) = db := ⟨_, rfl⟩
        have qd : decide ((0 : Int) < (dn : Int)) = db := by rw [← hdb]; exact decide_eq_decide.2 (by omega)
        rw [hdb] at hout
        subst hout
        go_wp2_with fail
        go_meet
        exact ⟨by first | rfl | simp, rfl⟩
      obtain ⟨rfl, rfl⟩ := hcut
      clear e16 e17 hout
      cases ou with
      | false =>
        have q8 : IntKind.i64.wrap ((0 : Int) - 1) = -1 := by decide
        have HST := Lib.hid (HRK.out.stop hki HOU.out)
        clear hx1 hx2 hx0 e12 e0
        go_wp2_with fail
        go_roundw
        case rel => exact ⟨-1, rfl, by omega, by omega, HST.out, HBK.out⟩
        case measure => simp only [Lib.intOf]; omega
      | true =>
      obtain ⟨z1, hz1'⟩ : ∃ z1 : Int, (k : Int) - 1 = z1 := ⟨_, rfl⟩
      have q9 : IntKind.i64.wrap ((k : Int) - 1) = z1 := by rw [wrap_ok (by unfold I64; omega)]; exact hz1'
      have HZ1 := Lib.hid hz1'
      clear hz1'
      go_upto_region 13 with fail
      go_cut [88] from 68 to 88 (fun v wx => ∃ b : Bool, v = .bool b ∧ (b = true → Kd2 t ∧ ¬ NoMeet l a t k i) ∧ (b = false → Kd2 t → NoMeet l a t k i) ∧ Below WA.heap.size WA wx)
      case first =>
        have HPI := Lib.hid (fun W (hb : Below WA.heap.size WA W) => part_ok W l a t w.heap.size 0 al cl i (Nat.le_trans (HBA.out.trans (hb.mono HBA.out.size)).size (Nat.le_refl _)) (HL.out W (HBA.out.trans (hb.mono HBA.out.size))) (HTA.out i hlt W (HBA.out.trans (hb.mono HBA.out.size))) hn HZ.out (HSA.out i hil) (by omega) N ⟨gx, ox, hix, HRD.out W hb⟩)
        have HPK := Lib.hid (fun W (hb : Below WA.heap.size WA W) => part_ok W l a t w.heap.size 0 al cl k (Nat.le_trans (HBA.out.trans (hb.mono HBA.out.size)).size (Nat.le_refl _)) (HL.out W (HBA.out.trans (hb.mono HBA.out.size))) (HTA.out k hkN W (HBA.out.trans (hb.mono HBA.out.size))) hn HZ.out (HSA.out k (by rw [HNN.out]; exact hkN)) (by omega) N ⟨gk, ok, hixk, HRDK.out W hb⟩)
        by_cases hk2 : Kd2 t
        · have hor : (kd == 10) = true ∨ ((kd == 10) = false ∧ (kd == 8) = true) := by
            rcases hk2 with h | h
            · left; rw [HKD.out] at h; rw [h]; rfl
            · right; rw [HKD.out] at h; rw [h]; exact ⟨rfl, rfl⟩
          have HK2 := Lib.hid hk2
          clear hk2
          rcases hor with qk | ⟨qk, qk8⟩
          all_goals
            go_wp2_with fail
            refine (HPI.out _ HBK.out).mono ?_
            rintro e w5 ⟨v5, O5, rfl, h1, h2, h3, h4⟩
            have HO5 := Lib.hid h1
            have HT5 := Lib.hid h2
            have HL5 := Lib.hid h3
            have HB5 := Lib.hid (HBK.out.trans (h4.mono HBK.out.size))
            clear h1 h2 h3 h4
            go_wp2_with fail
            refine (HPK.out _ HB5.out).mono ?_
            rintro e w6 ⟨v6, O6, rfl, h1, h2, h3, h4⟩
            have HB6 := Lib.hid (HB5.out.trans (h4.mono HB5.out.size))
            have HT6 := Lib.hid h2
            have HME := Lib.hid (meet_ok w6 v5 v6 _ _ O5 O6 (own_block HO5.out (w' := w6) fun j hj => h4.block j ((HO5.out.lt j hj).2)) h1 (Nat.le_trans HL5.out (by omega)) (Nat.le_trans h3 (by omega)))
            clear h1 h2 h3 h4
            go_wp2_with fail
            refine HME.out.mono ?_
            rintro e w7 ⟨⟨b, rfl, hb⟩, m, hw7⟩
            have hb7 : Below w6.heap.size w6 w7 := by rw [hw7]; exact below_drewN _ _
            have HB7 := Lib.hid (HB6.out.trans (hb7.mono HB6.out.size))
            have HMB := Lib.hid (show b = true ↔ ¬ NoMeet l a t k i from by
              rw [hb]
              unfold NoMeet
              rw [Classical.not_not]
              constructor
              · rintro ⟨x, h5, h6⟩; exact ⟨x, (HT5.out x).1 h5, (HT6.out x).1 h6⟩
              · rintro ⟨x, h5, h6⟩; exact ⟨x, (HT5.out x).2 h5, (HT6.out x).2 h6⟩)
            clear hb7 hw7 hb
            go_wp2_with fail
            go_meet
            exact ⟨b, rfl, fun h => ⟨HK2.out, HMB.out.1 h⟩, fun h _ => Classical.byContradiction fun hc => (by have h9 := HMB.out.2 hc; rw [h] at h9; cases h9), HB7.out⟩
        · have qk : (kd == 10) = false := beq_eq_false_iff_ne.2 (fun h => hk2 (.inl (by rw [HKD.out]; exact h)))
          have qk8 : (kd == 8) = false := beq_eq_false_iff_ne.2 (fun h => hk2 (.inr (by rw [HKD.out]; exact h)))
          have HK2 := Lib.hid hk2
          clear hk2
          go_wp2_with fail
          go_meet
          exact ⟨false, rfl, fun h => (by cases h), fun _ h => absurd h HK2.out, HBK.out⟩
      obtain ⟨b, rfl, hb1, hb2, hb3⟩ := hcut
      have HB3 := Lib.hid hb3
      clear hb3 e12 e0
      cases b with
      | true =>
        have HNO := Lib.hid (show ¬ RtA l a t from fun h => (hb1 rfl).2 (h.pair (hb1 rfl).1 hki hil (HRK.out.must HOU.out)))
        clear hb1 hb2
        go_wp2_with fail
        go_ret
        exact ⟨⟨false, rfl, fun h => (by cases h), fun h => absurd h HNO.out⟩, HBA.out.trans (HB3.out.mono HBA.out.size)⟩
      | false =>
        have HNX := Lib.hid (HRK.out.next HOU.out (hb2 rfl))
        rw [HZ1.out] at HNX
        clear hb1 hb2 hx1 hx2 hx0
        go_wp2_with fail
        go_roundw
        case rel => exact ⟨z1, rfl, by have := HZ1.out; omega, by have := HZ1.out; omega, HNX.out, HB3.out⟩
        case measure => simp only [Lib.intOf]; have := HZ1.out; omega
    · have q7 : decide ((0 : Int) ≤ x) = false := decide_eq_false hx0
      obtain rfl : x = -1 := by omega
      have HNX := Lib.hid (HRI.out.next HRTI.out HRK.out)
      clear hcK
      go_wp2_with fail
      go_roundw
      case rel => exact ⟨i + 1, hlt, rfl, HNX.out, HBK.out⟩
      case measure => simp only [Lib.intOf]; omega
  · have q4 : decide ((i : Int) < (N : Int)) = false := decide_eq_false (by omega)
    have q4n : decide (i < N) = false := decide_eq_false hlt
    have HIN := Lib.hid (show i = t.nal by have := HNN.out; omega)
    go_wp2_with fail
    go_loopw [11] (fun jv wr => ∃ j : Nat, j ≤ en ∧ jv = .int .i64 (j : Nat) ∧ (∀ j', j' < j → RtA l a (t.et j')) ∧ Below WA.heap.size WA wr) (fun jv _ => en - (Lib.intOf jv).toNat)
    case atStart => exact ⟨0, Nat.zero_le _, rfl, fun j hj => absurd hj (Nat.not_lt_zero j), HBR.out⟩
    case round =>
    rename World => wJ
    obtain ⟨j, hj, rfl, hrj, hbj⟩ := hrel
    have HRJ := Lib.hid hrj
    have HBJ := Lib.hid hbj
    have HWJ := Lib.hid (HBA.out.trans (hbj.mono HBA.out.size))
    have e14 := (HBY.out wJ (HWA.out.trans (hbj.mono HWA.out.size))).2.2
    clear hrj hbj
    by_cases hltj : j < en
    · have q4j : decide ((j : Int) < (en : Int)) = true := decide_eq_true (by omega)
      have q4jn : decide (j < en) = true := decide_eq_true hltj
      have q5j : IntKind.i64.wrap ((j : Int) + 1) = ((j + 1 : Nat) : Int) := wrap_succ hltj (by omega)
      have hje : j < t.en := by rw [HEN.out]; exact hltj
      obtain ⟨gy, oy, hiy, hgy, hrd⟩ := tRow_read HER.out hltj
      have HRT := Lib.hid (hrd wJ (HWJ.out.block gy (Nat.lt_of_lt_of_le hgy HBW.out)))
      have H1T := Lib.hid (one_tcells (HEL.out j hje))
      have HC := Lib.hid (HIE.out j hje wJ HWJ.out)
      clear hrd hgy
      go_wp2_with (refine wpList_load_mid rfl 35 (.tmp 101) rfl gy oy rfl (t.et j).cells _ HRT.out Try.underlying35 rfl (by rw [info_T, H1T.out.1]) ?_)
      refine HC.out.mono ?_
      rintro e w8 ⟨⟨b, rfl, hb⟩, h2⟩
      have HB8 := Lib.hid (HBJ.out.trans (h2.mono HBJ.out.size))
      have HRB := Lib.hid hb
      clear h2 hb HRT HC e14
      cases b with
      | false =>
        have HNO := Lib.hid (show ¬ RtA l a t from fun h => by have h3 := HRB.out.2 (h.et hje); cases h3)
        go_wp2_with fail
        go_ret
        exact ⟨⟨false, rfl, fun h => (by cases h), fun h => absurd h HNO.out⟩, HBA.out.trans (HB8.out.mono HBA.out.size)⟩
      | true =>
        have HNX := Lib.hid (show ∀ j', j' < j + 1 → RtA l a (t.et j') from fun j' hj' => by
          rcases Nat.lt_or_ge j' j with h | h
          · exact HRJ.out j' h
          · obtain rfl : j' = j := by omega
            exact HRB.out.1 rfl)
        go_wp2_with fail
        go_roundw
        case rel => exact ⟨j + 1, hltj, rfl, HNX.out, HB8.out⟩
        case measure => simp only [Lib.intOf]; omega
    · have q4j : decide ((j : Int) < (en : Int)) = false := decide_eq_false (by omega)
      have q4jn : decide (j < en) = false := decide_eq_false hltj
      have HYES := Lib.hid (show RtA l a t from by
        have h1 := HRI.out
        rw [HIN.out] at h1
        exact h1.done (fun j' hj' => HRJ.out j' (by have := HEN.out; omega)))
      go_wp2_with fail
      go_ret
      exact ⟨⟨true, rfl, fun _ => HYES.out, fun _ => rfl⟩, HWJ.out⟩
end Go.Proofs.Ytecedbjkebdeaaa

/-
  Tags, the document's: 'right' of any type, 'Check'.
-/
namespace Go.Proofs.Ytecedbjkebdeaaa
open Go.RowKit Go.Maps Go.WideElems Go.ChangeMaps Go.MapKept Go.Shelf
set_option linter.unusedVariables false
set_option linter.unusedSimpArgs false
set_option maxRecDepth 100000

theorem right_all (l : EL) (hn : l.n ≤ 1000) (hz : ∀ p, p < l.n → (l.f p).t.sz ≤ 10000) : ∀ (s : Nat) (t : TT) (a : Bool) (B : Nat) (w : World), t.sz ≤ s → s ≤ 10000 → TIn B w t → B ≤ w.heap.size → EOk B w l →
    Calls Try.prog 17 #[.slice l.a l.n l.cap, .bool a, .agg t.cells.toArray] w fun e w' => (∃ b, e = .returned (.bool b) ∧ (b = true ↔ RtA l a t)) ∧ Below w.heap.size w w' := by
  intro s
  induction s with
  | zero => intro t a B w h; have := t.sz_pos; omega
  | succ s ih =>
    intro t a B w hts hs ht hB hl
    obtain ⟨pa, pc, aa, ac, ea, ec, TC⟩ := ht.tcells
    refine right_step l hn hz t a B w ht hB hl (Nat.le_trans hts hs) (fun i hi W hb => ?_) (fun i hi W hb => ?_)
    · have h1 := TT.alt_sz hi
      exact ih (t.alt i) a w.heap.size W (by omega) (by omega) ((TC.al i hi).2.below hb hB) hb.size (hl.below hb hB)
    · have h1 := TT.et_sz hi
      exact ih (t.et i) a w.heap.size W (by omega) (by omega) ((TC.el i hi).below hb hB) hb.size (hl.below hb hB)
theorem OkAll.iff (l : EL) : OkAll l ↔ ∀ p, p < l.n → RtA l (l.f p).auto (l.f p).t := by
  constructor
  · intro h p hp
    cases ha : (l.f p).auto with
    | true => exact .inl rfl
    | false => exact .inr (h p hp ha)
  · intro h p hp ha
    rcases h p hp with h1 | h1
    · rw [ha] at h1; cases h1
    · exact h1
set_option maxHeartbeats 16000000 in
theorem rCheck_ok (w : World) (l : EL) (hl : EOk w.heap.size w l) (hn : l.n ≤ 1000) (hz : ∀ p, p < l.n → (l.f p).t.sz ≤ 10000) :
    Calls Try.prog 8 #[.slice l.a l.n l.cap] w fun e w' => (∃ z : Int, e = .returned (.int .i64 z) ∧ ((z = 0 ∧ OkAll l) ∨ (z = 8 ∧ ¬ OkAll l))) ∧ Below w.heap.size w w' := by
  have HL := Lib.hid hl
  have HRA := Lib.hid (fun p (hp : p < l.n) W (hb : Below w.heap.size w W) => right_all l hn hz (l.f p).t.sz (l.f p).t (l.f p).auto w.heap.size W (Nat.le_refl _) (hz p hp) ((hl.el.2 p hp).2.2.below hb (Nat.le_refl _)) hb.size (hl.below hb (Nat.le_refl _)))
  obtain ⟨N, hN⟩ : ∃ N, l.n = N := ⟨_, rfl⟩
  have HNN := Lib.hid hN
  rw [hN] at hn HRA ⊢
  clear hl hz hN
  go_enter Try.func8, Try.ntmps8
  go_wp2_with fail
  go_loopw [3] (fun iv wr => ∃ i : Nat, i ≤ N ∧ iv = .int .i64 (i : Nat) ∧ Below w.heap.size w wr ∧ ∀ p, p < i → RtA l (l.f p).auto (l.f p).t) (fun iv _ => N - (Lib.intOf iv).toNat)
  case atStart => exact ⟨0, Nat.zero_le _, rfl, Below.refl _ _, fun p hp => absurd hp (Nat.not_lt_zero p)⟩
  case round =>
  obtain ⟨i, hi, rfl, hb, hr⟩ := hrel
  have HB := Lib.hid hb
  have HR := Lib.hid hr
  clear hb hr
  by_cases hlt : i < N
  · have q4 : decide ((i : Int) < (N : Int)) = true := decide_eq_true (by omega)
    have q4n : decide (i < N) = true := decide_eq_true hlt
    have q5 : IntKind.i64.wrap ((i : Int) + 1) = ((i + 1 : Nat) : Int) := wrap_succ hlt (by omega)
    have hil : i < l.n := by rw [HNN.out]; exact hlt
    obtain ⟨gx, ox, hix, hgx, hrd⟩ := eRow_read HL.out.el hil
    rw [HNN.out] at hix
    have hein := HL.out.el.2 i hil
    obtain ⟨u0, u1, u2, u3, u4, u5, u6, u7, u8, u9, u10, u11, u12, u13, u14, hus⟩ := list15 (l.f i).t.cells (one_tcells hein.2.2).1
    obtain ⟨au, hau⟩ : ∃ au, (l.f i).auto = au := ⟨_, rfl⟩
    have HSS := Lib.hid (show ∀ w', Below w.heap.size w w' → (w'.cell? ⟨gx, ox + 2, none⟩ = some (.bool au) ∧ w'.cell? ⟨gx, ox + 3, none⟩ = some u0 ∧ w'.cell? ⟨gx, ox + 4, none⟩ = some u1 ∧ w'.cell? ⟨gx, ox + 5, none⟩ = some u2 ∧ w'.cell? ⟨gx, ox + 6, none⟩ = some u3 ∧ w'.cell? ⟨gx, ox + 7, none⟩ = some u4 ∧ w'.cell? ⟨gx, ox + 8, none⟩ = some u5 ∧ w'.cell? ⟨gx, ox + 9, none⟩ = some u6 ∧ w'.cell? ⟨gx, ox + 10, none⟩ = some u7 ∧ w'.cell? ⟨gx, ox + 11, none⟩ = some u8 ∧ w'.cell? ⟨gx, ox + 12, none⟩ = some u9 ∧ w'.cell? ⟨gx, ox + 13, none⟩ = some u10 ∧ w'.cell? ⟨gx, ox + 14, none⟩ = some u11 ∧ w'.cell? ⟨gx, ox + 15, none⟩ = some u12 ∧ w'.cell? ⟨gx, ox + 16, none⟩ = some u13 ∧ w'.cell? ⟨gx, ox + 17, none⟩ = some u14) from fun w' hb => by
      have h := hrd w' (hb.block gx hgx)
      have hcs : (l.f i).cells = [.string (l.f i).mod, .string (l.f i).name, .bool au, u0, u1, u2, u3, u4, u5, u6, u7, u8, u9, u10, u11, u12, u13, u14] := by
        unfold ET.cells
        rw [hus, hau]
        rfl
      rw [hcs] at h
      exact ⟨h 2 _ rfl, h 3 _ rfl, h 4 _ rfl, h 5 _ rfl, h 6 _ rfl, h 7 _ rfl, h 8 _ rfl, h 9 _ rfl, h 10 _ rfl, h 11 _ rfl, h 12 _ rfl, h 13 _ rfl, h 14 _ rfl, h 15 _ rfl, h 16 _ rfl, h 17 _ rfl⟩)
    have hra := HRA.out i hlt
    rw [hus, hau] at hra
    have HRI := Lib.hid hra
    have HAU := Lib.hid hau
    have HBX0 := Lib.hid (Below.drew HB.out)
    have HS0 := Lib.hid (HSS.out _ HBX0.out)
    clear hrd hein hus hau hra hgx
    go_wp2_with fail
    go_region_held3 (fun w' => w'.cell? ⟨gx, ox + 2, none⟩ = some (.bool au) ∧ w'.cell? ⟨gx, ox + 3, none⟩ = some u0 ∧ w'.cell? ⟨gx, ox + 4, none⟩ = some u1 ∧ w'.cell? ⟨gx, ox + 5, none⟩ = some u2 ∧ w'.cell? ⟨gx, ox + 6, none⟩ = some u3 ∧ w'.cell? ⟨gx, ox + 7, none⟩ = some u4 ∧ w'.cell? ⟨gx, ox + 8, none⟩ = some u5 ∧ w'.cell? ⟨gx, ox + 9, none⟩ = some u6 ∧ w'.cell? ⟨gx, ox + 10, none⟩ = some u7 ∧ w'.cell? ⟨gx, ox + 11, none⟩ = some u8 ∧ w'.cell? ⟨gx, ox + 12, none⟩ = some u9 ∧ w'.cell? ⟨gx, ox + 13, none⟩ = some u10 ∧ w'.cell? ⟨gx, ox + 14, none⟩ = some u11 ∧ w'.cell? ⟨gx, ox + 15, none⟩ = some u12 ∧ w'.cell? ⟨gx, ox + 16, none⟩ = some u13 ∧ w'.cell? ⟨gx, ox + 17, none⟩ = some u14) (first | with_reducible exact HS1.out | with_reducible exact HS0.out) (first | (go_at_call 17; (with_reducible refine (HRI.out _ HBX0.out).mono ?_); rintro e w4 ⟨⟨b, rfl, hbb⟩, h4⟩; have HBB := Lib.hid hbb; have HBX1 := Lib.hid (HBX0.out.trans (h4.mono HBX0.out.size)); have HS1 := Lib.hid (HSS.out _ HBX1.out); clear hbb h4))
    cases b with
    | false =>
      have HNO := Lib.hid (show ¬ OkAll l from fun h => by have h3 := HBB.out.2 (by have h4 := (OkAll.iff l).1 h i hil; rw [HAU.out] at h4; exact h4); cases h3)
      go_wp2_with fail
      go_ret
      exact ⟨⟨8, rfl, .inr ⟨rfl, HNO.out⟩⟩, HBX1.out⟩
    | true =>
      have HNX := Lib.hid (show ∀ p, p < i + 1 → RtA l (l.f p).auto (l.f p).t from fun p hp => by
        rcases Nat.lt_or_ge p i with h | h
        · exact HR.out p h
        · obtain rfl : p = i := by omega
          have h4 := HBB.out.1 rfl
          rw [HAU.out]
          exact h4)
      go_wp2_with fail
      go_roundw
      case rel => exact ⟨i + 1, hlt, rfl, HBX1.out, HNX.out⟩
      case measure => simp only [Lib.intOf]; omega
  · have q4 : decide ((i : Int) < (N : Int)) = false := decide_eq_false (by omega)
    have q4n : decide (i < N) = false := decide_eq_false hlt
    have HOK := Lib.hid (show OkAll l from (OkAll.iff l).2 (fun p hp => HR.out p (by have := HNN.out; omega)))
    go_wp2_with fail
    go_ret
    exact ⟨⟨0, rfl, .inl ⟨rfl, HOK.out⟩⟩, HB.out⟩
end Go.Proofs.Ytecedbjkebdeaaa

/-
  A law's arguments within reach, in a program without listed variables.
-/
namespace Go.Proofs.Ytecedbjkebdeaaa
open Go.RowKit Go.ChangeShapes Go.WideShapes Go.Deep
set_option linter.unusedVariables false
set_option linter.unusedSimpArgs false
set_option maxRecDepth 100000

theorem handed_light {H : Type} {enc : TypeId × Value → H} {a : Assume} {C : Checked} {os : Os} {f : FuncId} {fn : Func} {s : ChangeSpec} {conds : List PathCond} {apart fresh handsOn again : Bool}
    (own : ownKnob C.prog.godebug = none) (started : os.Started) (noInit : C.prog.inits.idxOf? f = none) (hfn : C.prog.funcs[f]? = some fn)
    (witness : ∃ (w : World) (tape : Tape) (i : Input), w.os = os ∧ (w.forCall tape i).Shaped C.prog ∧ i.vars = [] ∧ Input.okWide C.prog (w.forCall tape i) .any w.heap.size f i ∧
      s.pre6 enc C.prog fn conds apart (w.forCall tape i).memory i.args ∧ a.holds C.prog (lone (Frame.enter C.prog f i.args .normal) [] (w.forCall tape i)))
    (contract : ∀ (W : World) (base : Nat) (args : Array Value) (ds gs : List (DataW H)) (before : List MemPlace),
      (∀ (j : Nat) t v, fn.params[j]? = some t → args[j]? = some v → Value.okWide C.prog W .any base t v) →
      DataW.Whole enc C.prog fn.params.toList s.vars apart W args.toList ds gs before →
      (∀ n ∈ DataW.weightsEach C.prog (fn.params.toList ++ (OpenSpec.ofChange s).bare.plain.varTypes C.prog) (ds ++ gs), n ≤ reachBytes) →
      Calls C.prog f args W fun e W' => ∃ v, e = .returned v ∧ s.post enc C.prog fn apart fresh handsOn again W args v W') :
    ReturnsInHanded a C os f .any (s.pre6 enc C.prog fn conds apart) (s.post enc C.prog fn apart fresh handsOn again) := by
  refine returnsInHanded_of_calls own started noInit witness fun w tape i _ _ _ hok hpre _ => ?_
  obtain ⟨_, _, _, fn2, hfn2, _, _, _, _, hval⟩ := hok
  obtain rfl : fn2 = fn := Option.some.inj (hfn2.symm.trans hfn)
  obtain ⟨_, ⟨_, ds, gs, before, hw, hall⟩⟩ := hpre
  refine (contract (w.forCall tape i) w.heap.size i.args ds gs before hval (DataW.Whole.of_heap (w' := w.forCall tape i) (by rfl) hw) (fun n hn => of_decide_eq_true (List.all_eq_true.1 hall n hn))).mono fun e W' ⟨v, he, hp⟩ => ?_
  subst he
  exact ChangeSpec.post_blind hp
end Go.Proofs.Ytecedbjkebdeaaa

/-
  Proved: the statement TagsChecks (whether all lies apart that must, among any entries, is what the document says), for every input; no further condition.
-/
namespace Go.Proofs.Ytecedbjkebdeaaa.tagsChecks
open Go.ChangeShapes Go.WideShapes Go.ChangeAt Go.RowKit
open Go.ChangeMaps (open_string shut_string)
set_option linter.unusedVariables false
set_option linter.unusedSimpArgs false
set_option maxRecDepth 100000

theorem own : ownKnob Try.prog.godebug = none := by kernel_rfl
theorem laidOut : laidOutB Try.prog = true := by kernel_rfl

set_option maxHeartbeats 16000000 in
theorem walk (w : World) (a0 : Option Addr) (len0 cap0 : Nat) (w0 : ∃ f, ELIn w.heap.size w ⟨a0, len0, cap0, f⟩) :
    Calls Try.prog 3 #[.slice a0 len0 cap0] w fun e w' => e = .returned (.bool true) ∧ Below w.heap.size w w' := by
  obtain ⟨f, hE⟩ := w0
  have HE := Lib.hid hE
  have HEB := Lib.hid (fun (W : World) (hb : Below w.heap.size w W) => (hE.below hb (Nat.le_refl _)).below (Below.refl W.heap.size W) hb.size)
  clear hE
  go_enter Try.func3, Try.ntmps3
  go_wp2_with fail
  refine (awake13_ok _).mono ?_
  rintro e wA ⟨rfl, h2⟩
  have HB_1 := Lib.hid h2
  clear h2
  have hf := few13_ok wA ⟨a0, len0, cap0, f⟩ (HEB.out wA HB_1.out)
  change Calls _ _ #[.slice a0 len0 cap0, .int .i64 60] _ _ at hf
  have HF0 := Lib.hid hf
  clear hf
  go_wp2_with fail
  refine HF0.out.mono ?_
  rintro e wB ⟨⟨b, rfl, hfe⟩, h2⟩
  have HB_2 := Lib.hid (HB_1.out.trans (h2.mono HB_1.out.size))
  have HFE := Lib.hid hfe
  clear h2 HB_1 HF0 hfe
  cases b with
  | false =>
    go_wp2_with fail
    go_ret
    exact ⟨rfl, HB_2.out⟩
  | true =>
  have HFW := Lib.hid (HFE.out (by first | rfl | trivial))
  have h12 : len0 ≤ 12 := HFW.out.1
  have HSM := Lib.hid (show ∀ p, p < len0 → (f p).t.sz ≤ 10000 ∧ (f p).t.wid ≤ 10000 from fun p hp => by have h := few_small (x := 60) (HE.out.2 p hp).2.2 (HFW.out.2 p hp).1 (by omega); have h : (f p).t.sz ≤ 1000 ∧ (f p).t.wid ≤ 1000 := h; omega)
  have HEO := Lib.hid (fun (W : World) (hb : Below w.heap.size w W) => (show EOk W.heap.size W ⟨a0, len0, cap0, f⟩ from ⟨HEB.out W hb, by show len0 ≤ _; omega, fun i hi => by have h := (HFW.out.2 i hi).2; show (f i).mod.size + (f i).name.size + 1 ≤ _; have h : (f i).mod.size + (f i).name.size ≤ 1000 := h; omega⟩))
  have hck := fun (W : World) (hb : Below w.heap.size w W) => Check_ok W ⟨a0, len0, cap0, f⟩ (HEO.out W hb) (by show len0 ≤ _; omega) HSM.out
  have hcr := fun (W : World) (hb : Below w.heap.size w W) => rCheck_ok W ⟨a0, len0, cap0, f⟩ (HEO.out W hb) (by show len0 ≤ _; omega) (fun p hp => (HSM.out p hp).1)
  obtain ⟨ok, hok⟩ : ∃ ok : Prop, OkAll ⟨a0, len0, cap0, f⟩ = ok := ⟨_, rfl⟩
  rw [hok] at hck hcr
  have HCK := Lib.hid (show ∀ (W : World), Below w.heap.size w W → Calls Try.prog 7 #[.slice a0 len0 cap0] W _ from hck)
  have HCR := Lib.hid (show ∀ (W : World), Below w.heap.size w W → Calls Try.prog 8 #[.slice a0 len0 cap0] W _ from hcr)
  clear hck hcr hok
  go_wp2_with fail
  refine (HCK.out _ HB_2.out).mono ?_
  rintro e wC ⟨⟨z, rfl, hz⟩, h2⟩
  have HB_3 := Lib.hid (HB_2.out.trans (h2.mono HB_2.out.size))
  have HZ := Lib.hid hz
  clear h2 hz
  go_wp2_with fail
  refine (HCR.out _ HB_3.out).mono ?_
  rintro e wD ⟨⟨z2, rfl, hz2⟩, h2⟩
  have HB_4 := Lib.hid (HB_3.out.trans (h2.mono HB_3.out.size))
  obtain rfl : z2 = z := by
    rcases HZ.out with ⟨h3, h4⟩ | ⟨h3, h4⟩ <;> rcases hz2 with ⟨h5, h6⟩ | ⟨h5, h6⟩
    · omega
    · exact absurd h4 h6
    · exact absurd h6 h4
    · omega
  have q1 : (z2 == z2) = true := by simp
  clear h2 hz2
  go_wp2_with fail
  go_ret
  exact ⟨by first | rfl | simp, HB_4.out⟩

set_option maxRecDepth 100000 in
theorem lifted (os : Os) (started : os.Started) (H : Type) (enc : TypeId × Value → H) :
    ReturnsInHanded {} Try.checked os 3 .any (Rows.tagsChecksSpec.pre6 enc Try.prog Try.f3 Rows.tagsChecksRow.domain false) (Rows.tagsChecksSpec.post enc Try.prog Try.f3 false true false false) := by
  refine handed_light (C := Try.checked) own started (by kernel_rfl) Try.func3
    (ChangeSpec.witness6 (enc := enc) (C := Try.checked) false ⟨#[], #[.slice none 0 0], []⟩ 8 (by kernel_rfl) (by kernel_rfl) (by kernel_rfl) (by kernel_rfl)) ?_
  intro W base args ds gs before hval0 hW hsz0
  have hval : ∀ (j : Nat) t v, Try.f3.params[j]? = some t → args[j]? = some v → Value.okWide Try.prog W .any base t v := hval0
  have hW' := hW
  obtain ⟨p, q, hA0, hV, rfl, hfz, hnd⟩ := hW
  have hA : DataW.TrodAll enc Try.prog W 0 (fun _ => true) true Try.f3.params.toList args.toList ds p := hA0
  rw [Try.params3] at hA hval
  obtain ⟨v0, vs0, d0, ds0, p0, q0, hargs, rfl, rfl, h0, r0⟩ := trodAll_cons hA
  obtain ⟨rfl, rfl, rfl⟩ := trodAll_nil r0
  obtain rfl : args = #[v0] := by cases args; simp_all
  obtain ⟨rfl, rfl⟩ := trodVars_none hV
  obtain ⟨a0, len0, cap0, rfl⟩ := okWide_slice Try.underlying22 (hval 0 22 v0 rfl rfl)
  have k0 := h0
  have lt0 : ∀ x ∈ p0, x.block < W.heap.size := by obtain ⟨m, hm⟩ := k0; exact DataW.trod_lt m _ _ _ hm
  have li0 : Light 22 d0 := light_each hsz0 0 _ _ rfl rfl
  have w0 := open_es h0 li0
  clear hA0 hval0
  refine (walk W a0 len0 cap0 w0).mono fun e W' ⟨he, bel⟩ => ?_
  subst he
  exact ⟨_, rfl, _, _, _, [], _, [], hW', trodAll_mk1 (shut_bool Try.underlying4 _), (trodAll_cons_mk (Below.trod laidOut (by kernel_rfl) (of_decide_eq_true (by kernel_rfl)) k0 bel lt0) trodAll_mk0), rfl, bel.frame _, fun h => by cases h⟩

theorem over : Rows.tagsChecksRow.holds Try.pinned (OpenSpec.ofChange Rows.tagsChecksSpec) :=
  OpenClaim.holds_of_wide 3 Try.f3 rfl rfl rfl rfl rfl rfl rfl ⟨rfl, rfl, rfl, rfl, rfl⟩ rfl rfl rfl rfl rfl (by kernel_rfl) Try.func3 (by kernel_rfl)
    (of_decide_eq_true (by kernel_rfl)) (by unfold Func.isWrapper; first | (rw [if_pos (by decide +kernel)]; kernel_rfl) | (rw [if_neg (by decide +kernel)]; exact ⟨rfl, rfl⟩))
    (fun os started H enc _ => lifted os started H enc)

theorem proved : Rows.TagsChecksSaid := over
end Go.Proofs.Ytecedbjkebdeaaa.tagsChecks
