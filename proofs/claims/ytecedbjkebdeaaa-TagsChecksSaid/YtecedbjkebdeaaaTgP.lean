/-
  Tags: the graph's steps, and how its settling ends: no walk here.
-/
import Derived.Test.YtecedbjkebdeaaaTgM
namespace Go.Proofs.Ytecedbjkebdeaaa
open Go.RowKit
set_option linter.unusedVariables false
set_option linter.unusedSimpArgs false
set_option maxRecDepth 100000

/-! steps -/
def GL.give (G : GL) (n : Nat) (T : TS) : GL :=
  { G with S := fun k => if k = n then (G.S n).or T else G.S k, Q := if (G.S n).l.length < ((G.S n).or T).l.length then G.Q ++ [n] else G.Q }
def GL.reach (G : GL) (p : Nat) : GL := { G with R := if p ∈ G.R then G.R else G.R ++ [p] }
def GL.edge (G : GL) (p n : Nat) : GL := { G with E := fun k => if k = p then G.E p ++ [n] else G.E k }
def GL.top (G : GL) (c : Nat) : GL := { G with most := max G.most c }
def GL.add (G : GL) : GL := { G with m := G.m + 1, S := fun k => if k = G.m then TS.no else G.S k, E := fun k => if k = G.m then [] else G.E k }
def GL.new (n : Nat) : GL := ⟨n, [], [], fun _ => TS.no, fun _ => [], 0⟩

theorem GL.give_ext (G : GL) (n : Nat) (T : TS) : GExt G (G.give n T) := by
  refine ⟨rfl, ⟨[], by simp [GL.give]⟩, fun k x h => ?_, fun _ _ h => h, Nat.le_refl _⟩
  show (if k = n then (G.S n).or T else G.S k) x = true
  split
  · next e => subst e; show (G.S k x || T x) = true; rw [h]; rfl
  · exact h
theorem GL.give_has (G : GL) (n : Nat) (T : TS) {x : Int} (h : T x = true) : (G.give n T).S n x = true := by
  show (if n = n then (G.S n).or T else G.S n) x = true
  rw [if_pos rfl]
  show (G.S n x || T x) = true
  rw [h]; simp
theorem GL.give_S {G : GL} {n k : Nat} {T : TS} {x : Int} (h : (G.give n T).S k x = true) : G.S k x = true ∨ (k = n ∧ T x = true) := by
  have h' : (if k = n then (G.S n).or T else G.S k) x = true := h
  split at h'
  · next e =>
    subst e
    have h2 : (G.S k x || T x) = true := h'
    rw [Bool.or_eq_true] at h2
    rcases h2 with h3 | h3
    · exact .inl h3
    · exact .inr ⟨rfl, h3⟩
  · exact .inl h'
theorem GL.give_Q {G : GL} {n k : Nat} {T : TS} (h : k ∈ (G.give n T).Q) : k ∈ G.Q ∨ k = n := by
  have h' : k ∈ (if (G.S n).l.length < ((G.S n).or T).l.length then G.Q ++ [n] else G.Q) := h
  split at h'
  · rcases List.mem_append.1 h' with h2 | h2
    · exact .inl h2
    · exact .inr (List.mem_singleton.1 h2)
  · exact .inl h'
theorem GL.give_Q_old {G : GL} {n k : Nat} {T : TS} (h : k ∈ G.Q) : k ∈ (G.give n T).Q := by
  show k ∈ (if (G.S n).l.length < ((G.S n).or T).l.length then G.Q ++ [n] else G.Q)
  split
  · exact List.mem_append_left _ h
  · exact h
/-- the set has grown, and stands to be handed on; or all was there -/
theorem GL.give_or (G : GL) (n : Nat) (T : TS) : (G.give n T).Q = G.Q ++ [n] ∨ ((G.give n T).Q = G.Q ∧ ∀ k x, x ∈ univ → (G.give n T).S k x = true → G.S k x = true) := by
  by_cases h : (G.S n).l.length < ((G.S n).or T).l.length
  · exact .inl (by show (if _ then _ else _) = _; rw [if_pos h])
  · refine .inr ⟨by show (if _ then _ else _) = _; rw [if_neg h], fun k x hx h2 => ?_⟩
    rcases GL.give_S h2 with h3 | ⟨rfl, h3⟩
    · exact h3
    · exact TS.or_stay (by have := TS.or_len (G.S k) T; omega) x hx h3
theorem GL.give_ok {l : EL} {Z : Int → Prop} {D : Nat → Bool × TT} {G : GL} (h : GOk l Z D G) {n : Nat} {T : TS} (hn : n < G.m) (hl : G.live l n) (hT : ∀ x, x ∈ univ → T x = true → Tg l (D n).1 (D n).2 x) : GOk l Z D (G.give n T) where
  ln := h.ln
  de := h.de
  sn := fun k hk x hx hs => by
    rcases GL.give_S hs with h1 | ⟨rfl, h1⟩
    · exact h.sn k hk x hx h1
    · exact hT x hx h1
  lv := fun k hk x hx hs => by
    rcases GL.give_S hs with h1 | ⟨rfl, h1⟩
    · exact h.lv k hk x hx h1
    · exact hl
  ed := h.ed
  rr := h.rr
  rn := h.rn
  qq := fun k hk => by
    rcases GL.give_Q hk with h1 | rfl
    · exact h.qq k h1
    · exact ⟨hn, hl⟩
  mo := h.mo
theorem GL.give_wait {G : GL} (h : GWait G) (n : Nat) (T : TS) : GWait (G.give n T) := by
  intro k hk x hx hs
  rcases G.give_or n T with h1 | ⟨h1, h2⟩
  · rw [h1]
    rcases GL.give_S hs with h3 | ⟨rfl, _⟩
    · exact List.mem_append_left _ (h k hk x hx h3)
    · exact List.mem_append_right _ List.mem_cons_self
  · rw [h1]
    exact h k hk x hx (h2 k x hx hs)
theorem GL.reach_ext (G : GL) (p : Nat) : GExt G (G.reach p) := by
  refine ⟨rfl, ?_, fun _ _ h => h, fun _ _ h => h, Nat.le_refl _⟩
  show ∃ r, (if p ∈ G.R then G.R else G.R ++ [p]) = G.R ++ r
  split
  · exact ⟨[], by simp⟩
  · exact ⟨[p], rfl⟩
theorem GL.reach_has (G : GL) (p : Nat) : p ∈ (G.reach p).R := by
  show p ∈ (if p ∈ G.R then G.R else G.R ++ [p])
  split
  · assumption
  · exact List.mem_append_right _ List.mem_cons_self
theorem GL.reach_R {G : GL} {p k : Nat} (h : k ∈ (G.reach p).R) : k ∈ G.R ∨ k = p := by
  have h' : k ∈ (if p ∈ G.R then G.R else G.R ++ [p]) := h
  split at h'
  · exact .inl h'
  · rcases List.mem_append.1 h' with h2 | h2
    · exact .inl h2
    · exact .inr (List.mem_singleton.1 h2)
theorem GL.reach_ok {l : EL} {Z : Int → Prop} {D : Nat → Bool × TT} {G : GL} (h : GOk l Z D G) {p : Nat} (hp : p < l.n) (hz : ∀ x, Tg l (l.f p).auto (l.f p).t x → Z x) : GOk l Z D (G.reach p) where
  ln := h.ln
  de := h.de
  sn := h.sn
  lv := fun k hk x hx hs => (G.reach_ext p).live (h.lv k hk x hx hs)
  ed := fun q hq n hn => ⟨(h.ed q hq n hn).1, (G.reach_ext p).mem (h.ed q hq n hn).2.1, (G.reach_ext p).live (h.ed q hq n hn).2.2.1, (h.ed q hq n hn).2.2.2⟩
  rr := fun q hq => by
    rcases GL.reach_R hq with h1 | rfl
    · exact h.rr q h1
    · exact ⟨hp, hz⟩
  rn := by
    show (if p ∈ G.R then G.R else G.R ++ [p]).Nodup
    split
    · exact h.rn
    · next hn =>
      rw [List.nodup_append]
      exact ⟨h.rn, by simp, fun a ha b hb e => by rw [List.mem_singleton] at hb; subst hb; subst e; exact hn ha⟩
  qq := fun k hk => ⟨(h.qq k hk).1, (G.reach_ext p).live (h.qq k hk).2⟩
  mo := h.mo
theorem GL.edge_ext (G : GL) (p n : Nat) : GExt G (G.edge p n) := by
  refine ⟨rfl, ⟨[], by simp [GL.edge]⟩, fun _ _ h => h, fun q k h => ?_, Nat.le_refl _⟩
  show k ∈ (if q = p then G.E p ++ [n] else G.E q)
  split
  · next e => subst e; exact List.mem_append_left _ h
  · exact h
theorem GL.edge_has (G : GL) (p n : Nat) : n ∈ (G.edge p n).E p := by
  show n ∈ (if p = p then G.E p ++ [n] else G.E p)
  rw [if_pos rfl]
  exact List.mem_append_right _ List.mem_cons_self
theorem GL.edge_E {G : GL} {p n q k : Nat} (h : k ∈ (G.edge p n).E q) : k ∈ G.E q ∨ (q = p ∧ k = n) := by
  have h' : k ∈ (if q = p then G.E p ++ [n] else G.E q) := h
  split at h'
  · next e =>
    subst e
    rcases List.mem_append.1 h' with h2 | h2
    · exact .inl h2
    · exact .inr ⟨rfl, List.mem_singleton.1 h2⟩
  · exact .inl h'
theorem GL.edge_ok {l : EL} {Z : Int → Prop} {D : Nat → Bool × TT} {G : GL} (h : GOk l Z D G) {p n : Nat} (hn : n < G.m) (hp : p ∈ G.R) (hl : G.live l n) (ht : ∀ x, Tg l (l.f p).auto (l.f p).t x → Tg l (D n).1 (D n).2 x) : GOk l Z D (G.edge p n) where
  ln := h.ln
  de := h.de
  sn := h.sn
  lv := h.lv
  ed := fun q hq k hk => by
    rcases GL.edge_E hk with h1 | ⟨rfl, rfl⟩
    · exact h.ed q hq k h1
    · exact ⟨hn, hp, hl, ht⟩
  rr := h.rr
  rn := h.rn
  qq := h.qq
  mo := h.mo
theorem GL.top_ext (G : GL) (c : Nat) : GExt G (G.top c) := ⟨rfl, ⟨[], by simp [GL.top]⟩, fun _ _ h => h, fun _ _ h => h, Nat.le_max_left _ _⟩
theorem GL.top_ok {l : EL} {Z : Int → Prop} {D : Nat → Bool × TT} {G : GL} (h : GOk l Z D G) {c : Nat} (hz : 0 < c → Z (1000 + ((c - 1 : Nat) : Int))) : GOk l Z D (G.top c) where
  ln := h.ln
  de := h.de
  sn := h.sn
  lv := h.lv
  ed := h.ed
  rr := h.rr
  rn := h.rn
  qq := h.qq
  mo := fun hm => by
    have h1 : 0 < max G.most c := hm
    show Z (1000 + ((max G.most c - 1 : Nat) : Int))
    rcases Nat.le_total G.most c with h2 | h2
    · rw [Nat.max_eq_right h2] at h1 ⊢; exact hz h1
    · rw [Nat.max_eq_left h2] at h1 ⊢; exact h.mo h1
theorem GL.add_ok {l : EL} {Z : Int → Prop} {D : Nat → Bool × TT} {G : GL} (h : GOk l Z D G) (a : Bool) (t : TT) : GOk l Z (fun k => if k = G.m then (a, t) else D k) G.add where
  ln := Nat.le_succ_of_le h.ln
  de := fun p hp => by
    have := h.ln
    show (if p = G.m then (a, t) else D p) = _
    rw [if_neg (by omega)]
    exact h.de p hp
  sn := fun k hk x hx hs => by
    have hs' : (if k = G.m then TS.no else G.S k) x = true := hs
    have hk' : k < G.m + 1 := hk
    show Tg l (if k = G.m then (a, t) else D k).1 (if k = G.m then (a, t) else D k).2 x
    split at hs'
    · cases hs'
    · next e => rw [if_neg e]; exact h.sn k (by omega) x hx hs'
  lv := fun k hk x hx hs => by
    have hs' : (if k = G.m then TS.no else G.S k) x = true := hs
    have hk' : k < G.m + 1 := hk
    split at hs'
    · cases hs'
    · next e => exact h.lv k (by omega) x hx hs'
  ed := fun p hp n hn => by
    have hn' : n ∈ (if p = G.m then [] else G.E p) := hn
    have hp' : p < G.m + 1 := hp
    split at hn'
    · cases hn'
    · next e =>
      have h1 := h.ed p (by omega) n hn'
      have h0 := h1.1
      refine ⟨by show n < G.m + 1; omega, h1.2.1, h1.2.2.1, fun x hx => ?_⟩
      show Tg l (if n = G.m then (a, t) else D n).1 (if n = G.m then (a, t) else D n).2 x
      rw [if_neg (by omega)]
      exact h1.2.2.2 x hx
  rr := h.rr
  rn := h.rn
  qq := fun k hk => by
    have h1 := h.qq k hk
    exact ⟨by show k < G.m + 1; have := h1.1; omega, h1.2⟩
  mo := h.mo
theorem GL.add_wait {G : GL} (h : GWait G) : GWait G.add := by
  intro k hk x hx hs
  have hs' : (if k = G.m then TS.no else G.S k) x = true := hs
  have hk' : k < G.m + 1 := hk
  split at hs'
  · cases hs'
  · next e => exact h k (by omega) x hx hs'
theorem GL.new_ok (l : EL) (Z : Int → Prop) : GOk l Z (fun p => ((l.f p).auto, (l.f p).t)) (GL.new l.n) where
  ln := Nat.le_refl _
  de := fun _ _ => rfl
  sn := fun _ _ _ _ h => by cases h
  lv := fun _ _ _ _ h => by cases h
  ed := fun _ _ _ h => by cases h
  rr := fun _ h => by cases h
  rn := List.nodup_nil
  qq := fun _ h => by cases h
  mo := fun h => by cases h
theorem GL.new_wait (n : Nat) : GWait (GL.new n) := fun _ _ _ _ h => by cases h

/-! how settling ends -/
/-- how much may still come -/
def phi (S : Nat → TS) : Nat → Nat
  | 0 => 0
  | k + 1 => phi S k + (9 - (S k).l.length)
theorem phi_le {S S' : Nat → TS} (h : ∀ k, (S k).l.length ≤ (S' k).l.length) : ∀ m, phi S' m ≤ phi S m
  | 0 => Nat.le_refl _
  | m + 1 => by
    have := phi_le h m
    have := h m
    unfold phi
    omega
theorem phi_lt {S S' : Nat → TS} (h : ∀ k, (S k).l.length ≤ (S' k).l.length) {n : Nat} (hn : (S n).l.length < (S' n).l.length) : ∀ m, n < m → phi S' m + 1 ≤ phi S m
  | 0, hm => by omega
  | m + 1, hm => by
    unfold phi
    rcases Nat.lt_or_ge n m with h1 | h1
    · have := phi_lt h hn m h1
      have := h m
      omega
    · obtain rfl : n = m := by omega
      have := phi_le h n
      have := TS.l_le (S' n)
      omega
def GL.left (G : GL) : Nat := phi G.S G.m + G.Q.length
theorem GL.give_left {G : GL} {n : Nat} {T : TS} (hn : n < G.m) : (G.give n T).left ≤ G.left := by
  have hle : ∀ k, (G.S k).l.length ≤ ((G.give n T).S k).l.length := fun k => by
    show _ ≤ ((if k = n then (G.S n).or T else G.S k) : TS).l.length
    split
    · next e => subst e; exact TS.or_len _ _
    · exact Nat.le_refl _
  unfold GL.left
  show phi (G.give n T).S G.m + (if (G.S n).l.length < ((G.S n).or T).l.length then G.Q ++ [n] else G.Q).length ≤ _
  split
  · next h =>
    have := phi_lt hle (n := n) (by show _ < ((if n = n then (G.S n).or T else G.S n) : TS).l.length; rw [if_pos rfl]; exact h) G.m hn
    rw [List.length_append]
    simp only [List.length_cons, List.length_nil]
    omega
  · have := phi_le hle G.m
    omega
/-- of each gift: it is there, or the giver stands to be handed on, or it is the one at hand, and its turn comes -/
def GHand (G : GL) (k : Nat) : Prop := ∀ p, p < G.m → ∀ n, n ∈ G.E p → (∀ x, x ∈ univ → G.S p x = true → G.S n x = true) ∨ p ∈ G.Q.drop k
def GHand2 (G : GL) (k n0 i : Nat) : Prop := ∀ p, p < G.m → ∀ n, n ∈ G.E p → (∀ x, x ∈ univ → G.S p x = true → G.S n x = true) ∨ p ∈ G.Q.drop (k + 1) ∨ (p = n0 ∧ n ∈ (G.E n0).drop i)
theorem GHand.start {G : GL} (h : GWait G) : GHand G 0 := by
  intro p hp n hn
  by_cases hc : ∀ x, x ∈ univ → G.S p x = true → G.S n x = true
  · exact .inl hc
  · refine .inr ?_
    rw [List.drop_zero]
    apply Classical.byContradiction
    intro hq
    exact hc fun x hx hs => absurd (h p hp x hx hs) hq
theorem GHand.take {G : GL} {k n0 : Nat} (h : GHand G k) (hk : G.Q[k]? = some n0) : GHand2 G k n0 0 := by
  intro p hp n hn
  rcases h p hp n hn with h1 | h1
  · exact .inl h1
  · obtain ⟨hlt, he⟩ := List.getElem?_eq_some_iff.1 hk
    rw [List.drop_eq_getElem_cons hlt] at h1
    rcases List.mem_cons.1 h1 with h2 | h2
    · rw [he] at h2
      subst h2
      exact .inr (.inr ⟨rfl, by simpa using hn⟩)
    · exact .inr (.inl h2)
theorem GHand2.step {G : GL} {k n0 i to : Nat} (h : GHand2 G k n0 i) (hk : k < G.Q.length) (hi : (G.E n0)[i]? = some to) : GHand2 (G.give to (G.S n0)) k n0 (i + 1) := by
  intro p hp n hn
  have hn' : n ∈ G.E p := hn
  have hp' : p < G.m := hp
  have hgrow := (G.give_ext to (G.S n0)).S
  obtain ⟨hlt, he⟩ := List.getElem?_eq_some_iff.1 hi
  have hdrop : (G.E n0).drop i = to :: (G.E n0).drop (i + 1) := by rw [List.drop_eq_getElem_cons hlt, he]
  have hQ : ∀ q, q ∈ G.Q.drop (k + 1) → q ∈ (G.give to (G.S n0)).Q.drop (k + 1) := fun q hq => by
    rcases G.give_or to (G.S n0) with h1 | ⟨h1, _⟩
    · rw [h1, List.drop_append_of_le_length (by omega)]
      exact List.mem_append_left _ hq
    · rw [h1]; exact hq
  -- the receiver's own gifts
  have hto : p = to → ((∀ x, x ∈ univ → (G.give to (G.S n0)).S p x = true → G.S p x = true) ∨ p ∈ (G.give to (G.S n0)).Q.drop (k + 1)) := fun e => by
    rcases G.give_or to (G.S n0) with h1 | ⟨h1, h2⟩
    · refine .inr ?_
      rw [h1, List.drop_append_of_le_length (by omega), e]
      exact List.mem_append_right _ List.mem_cons_self
    · exact .inl fun x hx hs => h2 p x hx hs
  have hpS : (∀ x, x ∈ univ → (G.give to (G.S n0)).S p x = true → G.S p x = true) ∨ p ∈ (G.give to (G.S n0)).Q.drop (k + 1) := by
    by_cases e : p = to
    · exact hto e
    · refine .inl fun x hx hs => ?_
      rcases GL.give_S hs with h1 | ⟨h1, _⟩
      · exact h1
      · exact absurd h1 e
  rcases h p hp' n hn' with h1 | h1 | ⟨rfl, h1⟩
  · rcases hpS with h2 | h2
    · exact .inl fun x hx hs => hgrow n x (h1 x hx (h2 x hx hs))
    · exact .inr (.inl h2)
  · exact .inr (.inl (hQ p h1))
  · rw [hdrop] at h1
    rcases List.mem_cons.1 h1 with h3 | h3
    · subst h3
      rcases hpS with h2 | h2
      · exact .inl fun x hx hs => G.give_has n (G.S p) (h2 x hx hs)
      · exact .inr (.inl h2)
    · exact .inr (.inr ⟨rfl, h3⟩)
theorem GHand2.stop {G : GL} {k n0 : Nat} (h : GHand2 G k n0 (G.E n0).length) : GHand G (k + 1) := by
  intro p hp n hn
  rcases h p hp n hn with h1 | h1 | ⟨_, h1⟩
  · exact .inl h1
  · exact .inr h1
  · rw [List.drop_length] at h1
    cases h1
theorem GHand.done {G : GL} {l : EL} {D : Nat → Bool × TT} (h : GHand G G.Q.length) (hr : ∀ p, p ∈ G.R → Req l G p (l.f p).auto (l.f p).t) : GDone l D G :=
  ⟨hr, fun p hp n hn => by
    rcases h p hp n hn with h1 | h1
    · exact h1
    · rw [List.drop_length] at h1
      cases h1⟩
theorem nodup_len : ∀ {l : List Nat} {n : Nat}, l.Nodup → (∀ x, x ∈ l → x < n) → l.length ≤ n := by
  intro l n h1 h2
  have : l ⊆ List.range n := fun x hx => List.mem_range.2 (h2 x hx)
  have := List.Nodup.length_le_of_subset h1 this
  simpa using this
end Go.Proofs.Ytecedbjkebdeaaa
