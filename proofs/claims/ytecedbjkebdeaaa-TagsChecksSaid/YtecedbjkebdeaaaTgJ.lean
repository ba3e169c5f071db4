/-
  Tags: what lies apart that must, as the document says it, and as sets tell it: no walk here.
-/
import Derived.Test.YtecedbjkebdeaaaTgP
namespace Go.Proofs.Ytecedbjkebdeaaa
open Go.RowKit
set_option linter.unusedVariables false
set_option linter.unusedSimpArgs false
set_option maxRecDepth 100000

/-- whether a part stays ahead of the next one -/
def TT.opt (t : TT) (i : Nat) : Bool := (t.ald i).opt || decide (0 < (t.ald i).d.n) || decide (t.pn ≤ i)
def TT.stays (t : TT) (i : Nat) : Bool := if t.kd = 10 then true else if t.kd = 8 then t.opt i else false
def TT.must (t : TT) (k i : Nat) : Prop := ∀ j, k ≤ j → j < i → t.stays j = true
theorem TT.must_succ {t : TT} {k i : Nat} (hk : k ≤ i) : t.must k (i + 1) ↔ t.must k i ∧ t.stays i = true := by
  constructor
  · exact fun h => ⟨fun j h1 h2 => h j h1 (by omega), h i hk (by omega)⟩
  · rintro ⟨h1, h2⟩ j h3 h4
    rcases Nat.lt_or_ge j i with h5 | h5
    · exact h1 j h3 h5
    · obtain rfl : j = i := by omega
      exact h2
/-- types that have no tag in common -/
def Ap (l : EL) (a b : TT) : Prop := ∀ x, ¬ (Tg l false a x ∧ Tg l false b x)
theorem Ap.of_univ {l : EL} {a b : TT} (h : ∀ x, x ∈ univ → ¬ (Tg l false a x ∧ Tg l false b x)) : Ap l a b := by
  rintro x ⟨h1, h2⟩
  have h3 := h1.pos
  by_cases hx : x < 1000
  · exact h x (h3.2 hx) ⟨h1, h2⟩
  · exact h 1000 (by unfold univ; simp) ⟨by simpa using h1.downward 0 (by omega), by simpa using h2.downward 0 (by omega)⟩
def Pairs (l : EL) (t : TT) : Prop := ∀ k i, k < i → i < t.nal → t.must k i → Ap l (t.alt k) (t.alt i)
/-- all lies apart that must -/
def Rt (l : EL) : TT → Prop
  | .nil => True
  | .mk kd tn con ext fr nm mo pa pt ad at_ ea en ec et => (∀ i, i < pa.n → Rt l (pt i)) ∧ (∀ i, i < ad.n → Rt l (at_ i)) ∧ (∀ i, i < en → Rt l (et i)) ∧ Pairs l (.mk kd tn con ext fr nm mo pa pt ad at_ ea en ec et)
theorem Rt.iff {l : EL} {t : TT} : Rt l t ↔ (∀ i, i < t.nal → Rt l (t.alt i)) ∧ (∀ i, i < t.en → Rt l (t.et i)) ∧ Pairs l t := by
  cases t with
  | nil =>
    refine ⟨fun _ => ⟨fun i hi => ?_, fun i hi => ?_, fun k i _ hi => ?_⟩, fun _ => trivial⟩
    · exact absurd hi (Nat.not_lt_zero i)
    · exact absurd hi (Nat.not_lt_zero i)
    · exact absurd hi (Nat.not_lt_zero i)
  | mk kd tn con ext fr nm mo pa pt ad at_ ea en ec et =>
    show ((∀ i, i < pa.n → Rt l (pt i)) ∧ (∀ i, i < ad.n → Rt l (at_ i)) ∧ (∀ i, i < en → Rt l (et i)) ∧ Pairs l _) ↔ (∀ i, i < pa.n + ad.n → Rt l (if i < pa.n then pt i else at_ (i - pa.n))) ∧ (∀ i, i < en → Rt l (et i)) ∧ Pairs l _
    constructor
    · rintro ⟨h1, h2, h3, h4⟩
      refine ⟨fun i hi => ?_, h3, h4⟩
      split
      · exact h1 i (by assumption)
      · exact h2 _ (by omega)
    · rintro ⟨h1, h3, h4⟩
      refine ⟨fun i hi => ?_, fun i hi => ?_, h3, h4⟩
      · have := h1 i (by omega)
        rwa [if_pos hi] at this
      · have := h1 (pa.n + i) (by omega)
        rwa [if_neg (by omega), Nat.add_sub_cancel_left] at this
/-- a set that has no tag of a type -/
def Dj (s : TS) (l : EL) (t : TT) : Prop := ∀ x, x ∈ univ → s x = true → ¬ Tg l false t x
/-- a set, and the tags of a type -/
def Un (s : TS) (l : EL) (t : TT) (s' : TS) : Prop := ∀ x, x ∈ univ → (s' x = true ↔ s x = true ∨ Tg l false t x)
structure JI (l : EL) (t : TT) (s0 : TS) (i : Nat) (P : TS) : Prop where
  rt : ∀ j, j < i → Rt l (t.alt j)
  pr : ∀ k j, k < j → j < i → t.must k j → Ap l (t.alt k) (t.alt j)
  dj : ∀ j, j < i → t.must 0 j → Dj s0 l (t.alt j)
  P : ∀ x, x ∈ univ → (P x = true ↔ (t.must 0 i ∧ s0 x = true) ∨ ∃ k, k < i ∧ t.must k i ∧ Tg l false (t.alt k) x)
theorem JI.start (l : EL) (t : TT) (s0 : TS) : JI l t s0 0 s0 :=
  ⟨fun j hj => absurd hj (Nat.not_lt_zero j), fun k j _ hj => absurd hj (Nat.not_lt_zero j), fun j hj => absurd hj (Nat.not_lt_zero j), fun x _ => ⟨fun h => .inl ⟨fun j _ hj => absurd hj (Nat.not_lt_zero j), h⟩, fun h => by
    rcases h with h | ⟨k, hk, _⟩
    · exact h.2
    · exact absurd hk (Nat.not_lt_zero k)⟩⟩
theorem JI.next {l : EL} {t : TT} {s0 P s' : TS} {i : Nat} (h : JI l t s0 i P) (hr : Rt l (t.alt i)) (hd : Dj P l (t.alt i)) (hu : Un P l (t.alt i) s') : JI l t s0 (i + 1) (if t.stays i = true then s' else TS.no) where
  rt := fun j hj => by
    rcases Nat.lt_or_ge j i with h1 | h1
    · exact h.rt j h1
    · obtain rfl : j = i := by omega
      exact hr
  pr := fun k j hkj hj hm => by
    rcases Nat.lt_or_ge j i with h1 | h1
    · exact h.pr k j hkj h1 hm
    · obtain rfl : j = i := by omega
      exact Ap.of_univ fun x hx hh => hd x hx ((h.P x hx).2 (.inr ⟨k, hkj, hm, hh.1⟩)) hh.2
  dj := fun j hj hm => by
    rcases Nat.lt_or_ge j i with h1 | h1
    · exact h.dj j h1 hm
    · obtain rfl : j = i := by omega
      exact fun x hx hs => hd x hx ((h.P x hx).2 (.inl ⟨hm, hs⟩))
  P := fun x hx => by
    by_cases hs : t.stays i = true
    · rw [if_pos hs, hu x hx, h.P x hx]
      constructor
      · rintro ((⟨h1, h2⟩ | ⟨k, h1, h2, h3⟩) | h1)
        · exact .inl ⟨(TT.must_succ (Nat.zero_le i)).2 ⟨h1, hs⟩, h2⟩
        · exact .inr ⟨k, by omega, (TT.must_succ (by omega)).2 ⟨h2, hs⟩, h3⟩
        · exact .inr ⟨i, by omega, fun j h2 h3 => by obtain rfl : j = i := by omega
                                                     exact hs, h1⟩
      · rintro (⟨h1, h2⟩ | ⟨k, h1, h2, h3⟩)
        · exact .inl (.inl ⟨((TT.must_succ (Nat.zero_le i)).1 h1).1, h2⟩)
        · rcases Nat.lt_or_ge k i with h4 | h4
          · exact .inl (.inr ⟨k, h4, ((TT.must_succ (by omega)).1 h2).1, h3⟩)
          · obtain rfl : k = i := by omega
            exact .inr h3
    · rw [if_neg hs]
      constructor
      · intro h1; cases h1
      · rintro (⟨h1, _⟩ | ⟨k, h1, h2, h3⟩)
        · exact absurd ((TT.must_succ (Nat.zero_le i)).1 h1).2 hs
        · exact absurd ((TT.must_succ (by omega)).1 h2).2 hs
/-- what joining the parts of a type tells -/
def PartsOk (l : EL) (t : TT) (s0 : TS) : Prop := (∀ i, i < t.nal → Rt l (t.alt i)) ∧ Pairs l t ∧ ∀ i, i < t.nal → t.must 0 i → Dj s0 l (t.alt i)
theorem JI.done {l : EL} {t : TT} {s0 P : TS} (h : JI l t s0 t.nal P) : PartsOk l t s0 := ⟨h.rt, fun k i hk hi hm => h.pr k i hk hi hm, h.dj⟩
theorem JI.fail {l : EL} {t : TT} {s0 P : TS} {i : Nat} (h : JI l t s0 i P) (hi : i < t.nal) (hn : ¬ (Rt l (t.alt i) ∧ Dj P l (t.alt i))) : ¬ PartsOk l t s0 := by
  rintro ⟨h1, h2, h3⟩
  refine hn ⟨h1 i hi, fun x hx hP hT => ?_⟩
  rcases (h.P x hx).1 hP with ⟨h4, h5⟩ | ⟨k, h4, h5, h6⟩
  · exact h3 i hi h4 x hx h5 hT
  · exact h2 k i h4 hi h5 x ⟨h6, hT⟩
/-- a choice: its set is the one that was given -/
theorem choice_parts {l : EL} {t : TT} {s0 P : TS} (hk : t.kd = 10) (h : JI l t s0 t.nal P) (he : ∀ i, i < t.en → Rt l (t.et i)) : Rt l t ∧ Dj s0 l t ∧ Un s0 l t P := by
  have hm : ∀ k i, t.must k i := fun k i j _ _ => by unfold TT.stays; rw [if_pos hk]
  have hd := h.done
  have hT : ∀ x, Tg l false t x ↔ ∃ i, i < t.nal ∧ Tg l false (t.alt i) x := fun x => by
    constructor
    · intro hx
      cases hx with
      | leaf _ h2 _ => exact absurd hk h2
      | alt h1 h2 h3 => exact ⟨_, h2, h3⟩
      | ref h1 _ _ => rw [hk] at h1; cases h1
    · rintro ⟨i, h1, h2⟩
      exact .alt hk h1 h2
  refine ⟨Rt.iff.2 ⟨hd.1, he, hd.2.1⟩, fun x hx hs hx2 => ?_, fun x hx => ?_⟩
  · obtain ⟨i, h1, h2⟩ := (hT x).1 hx2
    exact hd.2.2 i h1 (hm _ _) x hx hs h2
  · rw [h.P x hx, hT x]
    constructor
    · rintro (⟨_, h2⟩ | ⟨k, h1, h2, h3⟩)
      · exact .inl h2
      · exact .inr ⟨k, h1, h3⟩
    · rintro (h1 | ⟨k, h1, h2⟩)
      · exact .inl ⟨hm _ _, h1⟩
      · exact .inr ⟨k, h1, hm _ _, h2⟩
theorem choice_fail {l : EL} {t : TT} {s0 : TS} (hk : t.kd = 10) (h : ¬ PartsOk l t s0) : ¬ (Rt l t ∧ Dj s0 l t) := by
  rintro ⟨h1, h2⟩
  obtain ⟨h3, h4, h5⟩ := Rt.iff.1 h1
  exact h ⟨h3, h5, fun i hi _ x hx hs hT => h2 x hx hs (.alt hk hi hT)⟩
/-- any other type: a set of its own for its parts -/
theorem other_parts {l : EL} {t : TT} (h : PartsOk l t TS.no) (he : ∀ i, i < t.en → Rt l (t.et i)) : Rt l t := Rt.iff.2 ⟨h.1, he, h.2.1⟩
theorem other_fail {l : EL} {t : TT} (h : ¬ PartsOk l t TS.no) : ¬ Rt l t := fun h1 => by
  obtain ⟨h3, h4, h5⟩ := Rt.iff.1 h1
  exact h ⟨h3, h5, fun i _ _ x _ hs => by cases hs⟩
end Go.Proofs.Ytecedbjkebdeaaa
