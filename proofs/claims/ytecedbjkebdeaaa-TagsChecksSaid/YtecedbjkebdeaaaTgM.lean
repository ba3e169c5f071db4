/-
  Tags: sets of tags, which tags a type has, the order of a settling: no walk here.
-/
import Derived.Test.YtecedbjkebdeaaaShM
namespace Go.Proofs.Ytecedbjkebdeaaa
open Go.RowKit
set_option linter.unusedVariables false
set_option linter.unusedSimpArgs false
set_option maxRecDepth 100000

/-- the tags that stand in sets: 1000 for all automatic ones -/
def univ : List Int := [1, 2, 3, 4, 5, 10, 16, 22, 1000]
abbrev TS := Int → Bool
def TS.l (S : TS) : List Int := univ.filter S
def TS.or (S T : TS) : TS := fun x => S x || T x
def TS.one (y : Int) : TS := fun x => x == y
def TS.no : TS := fun _ => false
/-- a Kind's universal tag; 0: none -/
def ut (k : Int) : Int :=
  if k = 1 then 1 else if k = 2 then 2 else if k = 3 then 10 else if k = 4 then 5 else if k = 5 then 3 else if k = 6 then 4 else if k = 7 then 22 else if k = 8 then 16 else if k = 9 then 16 else 0
def uni (k : Int) : TS := fun x => x == ut k && decide (0 < ut k)
theorem ut_univ (k : Int) : 0 < ut k → ut k ∈ univ ∧ ut k < 1000 := by
  unfold ut univ
  repeat' split
  all_goals simp
theorem ut_nonneg (k : Int) : 0 ≤ ut k := by
  unfold ut
  repeat' split
  all_goals omega
theorem uni_univ {k x : Int} (h : uni k x = true) : x ∈ univ ∧ x < 1000 ∧ x = ut k := by
  unfold uni at h
  simp only [Bool.and_eq_true, beq_iff_eq, decide_eq_true_eq] at h
  obtain ⟨rfl, h⟩ := h
  exact ⟨(ut_univ k h).1, (ut_univ k h).2, rfl⟩
theorem TS.l_sorted (S : TS) : S.l.Pairwise (fun x y => x < y) := by
  unfold TS.l
  exact List.Pairwise.filter _ (by unfold univ; decide)
theorem TS.l_mem {S : TS} {x : Int} : x ∈ S.l ↔ x ∈ univ ∧ S x = true := by unfold TS.l; exact List.mem_filter
theorem TS.l_le (S : TS) : S.l.length ≤ 9 := by
  have h := List.length_filter_le S univ
  unfold TS.l
  exact h
theorem univ_pos {x : Int} (h : x ∈ univ) : 1 ≤ x ∧ x ≤ 1000 := by
  unfold univ at h
  simp only [List.mem_cons, List.not_mem_nil, or_false] at h
  omega
theorem TS.l_ext {S T : TS} (h : ∀ x, x ∈ univ → S x = T x) : S.l = T.l := by
  unfold TS.l
  exact List.filter_congr h
theorem filt_len {l : List Int} {S T : Int → Bool} (h : ∀ x, x ∈ l → S x = true → T x = true) : (l.filter S).length ≤ (l.filter T).length ∧ ((l.filter S).length = (l.filter T).length → ∀ x, x ∈ l → T x = true → S x = true) := by
  induction l with
  | nil => simp
  | cons a r ih =>
    have ih := ih (fun x hx => h x (List.mem_cons_of_mem _ hx))
    have ha := h a List.mem_cons_self
    cases hs : S a <;> cases ht : T a
    · simp only [List.filter_cons, hs, ht]
      refine ⟨ih.1, fun e x hx hT => ?_⟩
      rcases List.mem_cons.1 hx with rfl | hx
      · rw [ht] at hT; cases hT
      · exact ih.2 e x hx hT
    · simp only [List.filter_cons, hs, ht]
      refine ⟨by simp; omega, fun e => ?_⟩
      have := ih.1
      simp at e
      omega
    · have := ha hs
      rw [ht] at this
      cases this
    · simp only [List.filter_cons, hs, ht]
      refine ⟨by simp; omega, fun e x hx hT => ?_⟩
      rcases List.mem_cons.1 hx with rfl | hx
      · exact hs
      · exact ih.2 (by simpa using e) x hx hT
theorem filt_or {l : List Int} {S T : Int → Bool} : (l.filter fun x => S x || T x).length + (l.filter fun x => S x && T x).length = (l.filter S).length + (l.filter T).length := by
  induction l with
  | nil => rfl
  | cons a r ih => cases hs : S a <;> cases ht : T a <;> simp [List.filter_cons, hs, ht] <;> omega
theorem TS.or_len (S T : TS) : S.l.length ≤ (S.or T).l.length := (filt_len (l := univ) (fun x _ h => by show (S x || T x) = true; rw [h]; rfl)).1
/-- nothing came: all was there -/
theorem TS.or_stay {S T : TS} (h : (S.or T).l.length = S.l.length) : ∀ x, x ∈ univ → T x = true → S x = true := fun x hx hT =>
  (filt_len (l := univ) (S := S) (T := S.or T) (fun x _ h => by show (S x || T x) = true; rw [h]; rfl)).2 h.symm x hx (by show (S x || T x) = true; rw [hT]; simp)
/-- as many came as there are: none was there -/
theorem TS.or_apart {S T : TS} : (S.or T).l.length = S.l.length + T.l.length ↔ ∀ x, x ∈ univ → ¬ (S x = true ∧ T x = true) := by
  have h := filt_or (l := univ) (S := S) (T := T)
  have e : (univ.filter fun x => S x && T x).length = 0 ↔ ∀ x, x ∈ univ → ¬ (S x = true ∧ T x = true) := by
    rw [List.length_eq_zero_iff, List.filter_eq_nil_iff]
    simp
  rw [← e]
  unfold TS.l TS.or
  omega
theorem TS.or_le (S T : TS) : (S.or T).l.length ≤ S.l.length + T.l.length := by
  have h := filt_or (l := univ) (S := S) (T := T)
  unfold TS.l TS.or
  omega

/-! types -/
def TT.kd : TT → Int
  | .nil => 0
  | .mk kd .. => kd
def TT.nam : TT → ByteArray
  | .nil => ByteArray.empty
  | .mk _ nm .. => nm
def TT.pn : TT → Nat
  | .nil => 0
  | .mk _ _ _ _ _ _ _ pa .. => pa.n
def TT.an : TT → Nat
  | .nil => 0
  | .mk _ _ _ _ _ _ _ _ _ ad .. => ad.n
def TT.en : TT → Nat
  | .nil => 0
  | .mk _ _ _ _ _ _ _ _ _ _ _ _ en .. => en
def TT.et : TT → Nat → TT
  | .nil, _ => .nil
  | .mk _ _ _ _ _ _ _ _ _ _ _ _ _ _ et, i => et i
/-- the types of the parts, then of what is added -/
def TT.alt : TT → Nat → TT
  | .nil, _ => .nil
  | .mk _ _ _ _ _ _ _ pa pt _ at_ .., i => if i < pa.n then pt i else at_ (i - pa.n)
def TT.ald : TT → Nat → PD
  | .nil, _ => ⟨ByteArray.empty, false, ⟨none, 0, 0, fun _ => .nil⟩⟩
  | .mk _ _ _ _ _ _ _ pa _ ad .., i => if i < pa.n then pa.f i else ad.f (i - pa.n)
def TT.nal (t : TT) : Nat := t.pn + t.an
/-- an entry of a schema -/
structure ET where
  mod : ByteArray
  name : ByteArray
  auto : Bool
  t : TT
def ET.cells (e : ET) : List Value := [.string e.mod, .string e.name, .bool e.auto] ++ e.t.cells
def ET.full (e : ET) : List UInt8 := e.mod.data.toList ++ (46 :: e.name.data.toList)
def EIn (B : Nat) (W : World) (e : ET) : Prop := e.mod.size ≤ 140737488355328 ∧ e.name.size ≤ 140737488355328 ∧ TIn B W e.t
theorem EIn.below {B B' : Nat} {W W' : World} {e : ET} (h : EIn B W e) (hb : Below B' W W') (hB : B ≤ B') : EIn B' W' e := ⟨h.1, h.2.1, h.2.2.below hb hB⟩
/-- a list of entries -/
structure EL where
  a : Option Addr
  n : Nat
  cap : Nat
  f : Nat → ET
def EL.v (l : EL) : Value := .slice l.a l.n l.cap
def ELIn (B : Nat) (W : World) (l : EL) : Prop := RowAt B W l.a l.n l.n 18 (fun i => (l.f i).cells) ∧ ∀ i, i < l.n → EIn B W (l.f i)
theorem ELIn.below {B B' : Nat} {W W' : World} {l : EL} (h : ELIn B W l) (hb : Below B' W W') (hB : B ≤ B') : ELIn B' W' l := ⟨h.1.below hb hB, fun i hi => (h.2 i hi).below hb hB⟩
/-- the first of k entries with a full name -/
def EL.fst (l : EL) (s : ByteArray) : Nat → Option Nat
  | 0 => none
  | k + 1 => match l.fst s k with
    | some p => some p
    | none => if (l.f k).full = s.data.toList then some k else none
def EL.fnd (l : EL) (s : ByteArray) : Option Nat := l.fst s l.n
theorem EL.fst_lt {l : EL} {s : ByteArray} : ∀ {k p : Nat}, l.fst s k = some p → p < k ∧ (l.f p).full = s.data.toList
  | 0, p, h => by cases h
  | k + 1, p, h => by
    unfold EL.fst at h
    split at h
    · next q hq =>
      cases h
      have := EL.fst_lt hq
      exact ⟨by omega, this.2⟩
    · split at h
      · cases h
        exact ⟨by omega, by assumption⟩
      · cases h
theorem EL.fst_none {l : EL} {s : ByteArray} : ∀ {k : Nat}, l.fst s k = none ↔ ∀ p, p < k → (l.f p).full ≠ s.data.toList
  | 0 => by simp [EL.fst]
  | k + 1 => by
    unfold EL.fst
    split
    · next q hq =>
      have h1 := EL.fst_lt hq
      constructor
      · intro h; cases h
      · intro h; exact absurd h1.2 (h q (by omega))
    · next hq =>
      have h1 := EL.fst_none.1 hq
      split
      · next he =>
        constructor
        · intro h; cases h
        · intro h; exact absurd he (h k (by omega))
      · next he =>
        simp only [true_iff]
        intro p hp
        rcases Nat.lt_or_ge p k with h | h
        · exact h1 p h
        · obtain rfl : p = k := by omega
          exact he
theorem EL.fst_some {l : EL} {s : ByteArray} {k p : Nat} (hp : p < k) (he : (l.f p).full = s.data.toList) (hm : ∀ q, q < p → (l.f q).full ≠ s.data.toList) : l.fst s k = some p := by
  cases h : l.fst s k with
  | none => exact absurd he (EL.fst_none.1 h p hp)
  | some q =>
    have h1 := EL.fst_lt h
    rcases Nat.lt_trichotomy q p with h2 | h2 | h2
    · exact absurd h1.2 (hm q h2)
    · rw [h2]
    · exfalso
      clear h1
      induction k with
      | zero => cases h
      | succ k ih =>
        unfold EL.fst at h
        split at h
        · next r hr =>
          cases h
          have h4 := EL.fst_lt hr
          exact ih (by omega) hr
        · next hn =>
          split at h
          · cases h
            exact absurd he (EL.fst_none.1 hn p (by omega))
          · cases h

/-- the tags that a type has, by the document: the least sets -/
inductive Tg (l : EL) : Bool → TT → Int → Prop
  | leaf {a : Bool} {t : TT} {x : Int} : t.kd ≠ 11 → t.kd ≠ 10 → uni t.kd x = true → Tg l a t x
  | auto {t : TT} {i : Nat} : t.kd = 10 → i < t.nal → Tg l true t (1000 + i)
  | alt {t : TT} {i : Nat} {x : Int} : t.kd = 10 → i < t.nal → Tg l false (t.alt i) x → Tg l false t x
  | ref {a : Bool} {t : TT} {p : Nat} {x : Int} : t.kd = 11 → l.fnd t.nam = some p → Tg l (l.f p).auto (l.f p).t x → Tg l a t x
/-- a type, and what stands among its alternatives -/
inductive Alt : Bool → TT → Bool → TT → Prop
  | here {a : Bool} {t : TT} : Alt a t a t
  | down {t t' : TT} {a' : Bool} {i : Nat} : t.kd = 10 → i < t.nal → Alt false (t.alt i) a' t' → Alt false t a' t'
theorem Alt.snoc {a : Bool} {t t' : TT} {b : Bool} (h : Alt a t b t') : ∀ {i : Nat}, b = false → t'.kd = 10 → i < t'.nal → Alt a t false (t'.alt i) := by
  induction h with
  | here => intro i hb hk hi; subst hb; exact .down hk hi .here
  | down h1 h2 _ ih => intro i hb hk hi; exact .down h1 h2 (ih hb hk hi)
theorem Tg.pos {l : EL} {a : Bool} {t : TT} {x : Int} (h : Tg l a t x) : 1 ≤ x ∧ (x < 1000 → x ∈ univ) := by
  induction h with
  | leaf _ _ h => exact ⟨(univ_pos (uni_univ h).1).1, fun _ => (uni_univ h).1⟩
  | auto _ _ => exact ⟨by omega, fun h => by omega⟩
  | alt _ _ _ ih => exact ih
  | ref _ _ _ ih => exact ih
/-- the automatic tags of a type are the first ones -/
theorem Tg.downward {l : EL} {a : Bool} {t : TT} {x : Int} (h : Tg l a t x) : ∀ i : Nat, 1000 + (i : Int) ≤ x → Tg l a t (1000 + i) := by
  induction h with
  | leaf _ _ h => intro i hi; have := (uni_univ h).2.1; omega
  | auto h1 h2 => intro i hi; exact .auto h1 (by omega)
  | alt h1 h2 _ ih => intro i hi; exact .alt h1 h2 (ih i hi)
  | ref h1 h2 _ ih => intro i hi; exact .ref h1 h2 (ih i hi)

/-! the graph -/
/-- what a graph holds: how many types; the entries that are reached; those whose sets have grown; sets; whom each gives to; the most automatic tags -/
structure GL where
  m : Nat
  R : List Nat
  Q : List Nat
  S : Nat → TS
  E : Nat → List Nat
  most : Nat
def GL.live (l : EL) (G : GL) (n : Nat) : Prop := n ∈ G.R ∨ l.n ≤ n
/-- a graph whose sets are true: D: which type each number has; Z: what is looked for at all -/
structure GOk (l : EL) (Z : Int → Prop) (D : Nat → Bool × TT) (G : GL) : Prop where
  ln : l.n ≤ G.m
  de : ∀ p, p < l.n → D p = ((l.f p).auto, (l.f p).t)
  sn : ∀ n, n < G.m → ∀ x, x ∈ univ → G.S n x = true → Tg l (D n).1 (D n).2 x
  lv : ∀ n, n < G.m → ∀ x, x ∈ univ → G.S n x = true → G.live l n
  ed : ∀ p, p < G.m → ∀ n, n ∈ G.E p → n < G.m ∧ p ∈ G.R ∧ G.live l n ∧ ∀ x, Tg l (l.f p).auto (l.f p).t x → Tg l (D n).1 (D n).2 x
  rr : ∀ p, p ∈ G.R → p < l.n ∧ ∀ x, Tg l (l.f p).auto (l.f p).t x → Z x
  rn : G.R.Nodup
  qq : ∀ n, n ∈ G.Q → n < G.m ∧ G.live l n
  mo : 0 < G.most → Z (1000 + ((G.most - 1 : Nat) : Int))
/-- each set that is not empty stands to be handed on -/
def GWait (G : GL) : Prop := ∀ n, n < G.m → ∀ x, x ∈ univ → G.S n x = true → n ∈ G.Q
/-- nothing goes -/
structure GExt (G G' : GL) : Prop where
  m : G'.m = G.m
  R : ∃ r, G'.R = G.R ++ r
  S : ∀ n x, G.S n x = true → G'.S n x = true
  E : ∀ p n, n ∈ G.E p → n ∈ G'.E p
  most : G.most ≤ G'.most
theorem GExt.refl (G : GL) : GExt G G := ⟨rfl, ⟨[], by simp⟩, fun _ _ h => h, fun _ _ h => h, Nat.le_refl _⟩
theorem GExt.trans {G G' G'' : GL} (h : GExt G G') (k : GExt G' G'') : GExt G G'' := by
  obtain ⟨r, hr⟩ := h.R
  obtain ⟨r', hr'⟩ := k.R
  exact ⟨k.m.trans h.m, ⟨r ++ r', by rw [hr', hr, List.append_assoc]⟩, fun n x hx => k.S n x (h.S n x hx), fun p n hn => k.E p n (h.E p n hn), Nat.le_trans h.most k.most⟩
theorem GExt.mem {G G' : GL} (h : GExt G G') {p : Nat} (hp : p ∈ G.R) : p ∈ G'.R := by
  obtain ⟨r, hr⟩ := h.R
  rw [hr]
  exact List.mem_append_left _ hp
theorem GExt.live {l : EL} {G G' : GL} (h : GExt G G') {n : Nat} (hn : G.live l n) : G'.live l n := hn.imp (fun h1 => h.mem h1) id
/-- what a type that stands among the alternatives of number n asks -/
def Loc (l : EL) (G : GL) (n : Nat) (a : Bool) (t : TT) : Prop :=
  (t.kd = 11 → ∀ p, l.fnd t.nam = some p → p ∈ G.R ∧ n ∈ G.E p) ∧ (t.kd ≠ 11 → t.kd ≠ 10 → ∀ x, uni t.kd x = true → G.S n x = true) ∧ (t.kd = 10 → a = true → 0 < t.nal → G.S n 1000 = true ∧ t.nal ≤ G.most)
def Req (l : EL) (G : GL) (n : Nat) (a : Bool) (t : TT) : Prop := ∀ a' t', Alt a t a' t' → Loc l G n a' t'
theorem Loc.ext {l : EL} {G G' : GL} (h : GExt G G') {n : Nat} {a : Bool} {t : TT} (k : Loc l G n a t) : Loc l G' n a t :=
  ⟨fun e p hp => ⟨h.mem (k.1 e p hp).1, h.E _ _ (k.1 e p hp).2⟩, fun e1 e2 x hx => h.S _ _ (k.2.1 e1 e2 x hx), fun e1 e2 e3 => ⟨h.S _ _ (k.2.2 e1 e2 e3).1, Nat.le_trans (k.2.2 e1 e2 e3).2 h.most⟩⟩
theorem Req.ext {l : EL} {G G' : GL} (h : GExt G G') {n : Nat} {a : Bool} {t : TT} (k : Req l G n a t) : Req l G' n a t := fun a' t' ha => (k a' t' ha).ext h
theorem Req.leaf {l : EL} {G : GL} {n : Nat} {a : Bool} {t : TT} (hk : t.kd ≠ 10) (h : Loc l G n a t) : Req l G n a t := by
  intro a' t' ha
  cases ha with
  | here => exact h
  | down h1 => exact absurd h1 hk
theorem Req.auto {l : EL} {G : GL} {n : Nat} {t : TT} (h : Loc l G n true t) : Req l G n true t := by
  intro a' t' ha
  cases ha with
  | here => exact h
theorem Req.alts {l : EL} {G : GL} {n : Nat} {t : TT} (hk : t.kd = 10) (h : ∀ i, i < t.nal → Req l G n false (t.alt i)) : Req l G n false t := by
  intro a' t' ha
  cases ha with
  | here => exact ⟨fun e => by omega, fun _ e => absurd hk e, fun _ e => by cases e⟩
  | down h1 h2 h3 => exact h _ h2 a' t' h3
/-- all that is reached has been gone through, and all is handed on -/
structure GDone (l : EL) (D : Nat → Bool × TT) (G : GL) : Prop where
  ent : ∀ p, p ∈ G.R → Req l G p (l.f p).auto (l.f p).t
  cl : ∀ p, p < G.m → ∀ n, n ∈ G.E p → ∀ x, x ∈ univ → G.S p x = true → G.S n x = true
/-- a tag as it stands in a set -/
def inSet (x : Int) : Int := if x < 1000 then x else 1000
theorem GDone.all {l : EL} {D : Nat → Bool × TT} {G : GL} {Z : Int → Prop} (hk : GOk l Z D G) (h : GDone l D G) {a : Bool} {t : TT} {x : Int} (hx : Tg l a t x) :
    ∀ n a0 t0, n < G.m → Req l G n a0 t0 → Alt a0 t0 a t → G.S n (inSet x) = true ∧ (1000 ≤ x → x < 1000 + (G.most : Int)) := by
  induction hx with
  | leaf h1 h2 h3 =>
    intro n a0 t0 hn hr ha
    have h4 := uni_univ h3
    refine ⟨?_, fun h5 => by omega⟩
    unfold inSet
    rw [if_pos h4.2.1]
    exact (hr _ _ ha).2.1 h1 h2 _ h3
  | auto h1 h2 =>
    intro n a0 t0 hn hr ha
    have h3 := (hr _ _ ha).2.2 h1 rfl (by omega)
    refine ⟨?_, fun _ => by omega⟩
    unfold inSet
    rw [if_neg (by omega)]
    exact h3.1
  | alt h1 h2 _ ih =>
    intro n a0 t0 hn hr ha
    exact ih n a0 t0 hn hr (ha.snoc rfl h1 h2)
  | ref h1 h2 h3 ih =>
    rename_i a t p x
    intro n a0 t0 hn hr ha
    obtain ⟨h4, h5⟩ := (hr _ _ ha).1 h1 p h2
    have h6 := hk.rr p h4
    have h7 := ih p _ _ (by have := hk.ln; omega) (h.ent p h4) .here
    refine ⟨h.cl p (by have := hk.ln; omega) n h5 _ ?_ h7.1, h7.2⟩
    have h8 := h3.pos
    unfold inSet
    split
    · exact h8.2 (by assumption)
    · unfold univ; simp
end Go.Proofs.Ytecedbjkebdeaaa
