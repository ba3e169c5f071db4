/-
  Package tags: 'enter'.
-/
import Derived.Test.YtecedbjkebdeaaaTgE
namespace Go.Proofs.Ytecedbjkebdeaaa
open Go.RowKit Go.Maps Go.WideElems Go.ChangeMaps Go.MapKept Go.Shelf
set_option linter.unusedVariables false
set_option linter.unusedSimpArgs false
set_option maxRecDepth 100000

/-- how many types stand in the parts of a type, itself among them -/
def sumW (f : Nat → Nat) : Nat → Nat
  | 0 => 0
  | k + 1 => sumW f k + f k
theorem sumW_one {f : Nat → Nat} {n i : Nat} (hi : i < n) : f i ≤ sumW f n := by
  induction n with
  | zero => omega
  | succ n ih =>
    unfold sumW
    rcases Nat.lt_or_ge i n with h | h
    · have := ih h; omega
    · obtain rfl : i = n := by omega
      omega
theorem sumW_mono {f : Nat → Nat} {n i : Nat} (hi : i ≤ n) : sumW f i ≤ sumW f n := by
  induction n with
  | zero => obtain rfl : i = 0 := by omega
            exact Nat.le_refl _
  | succ n ih =>
    rcases Nat.lt_or_ge i (n + 1) with h | h
    · have := ih (by omega)
      show sumW f i ≤ sumW f n + f n
      omega
    · obtain rfl : i = n + 1 := by omega
      exact Nat.le_refl _
theorem sumW_add {f g : Nat → Nat} {n : Nat} : ∀ m, sumW (fun i => if i < n then f i else g (i - n)) (n + m) = sumW f n + sumW g m
  | 0 => by
    have : ∀ k, k ≤ n → sumW (fun i => if i < n then f i else g (i - n)) k = sumW f k := by
      intro k
      induction k with
      | zero => intro _; rfl
      | succ k ih =>
        intro hk
        show sumW (fun i => if i < n then f i else g (i - n)) k + (if k < n then f k else g (k - n)) = sumW f k + f k
        rw [ih (by omega), if_pos (by omega)]
    show sumW (fun i => if i < n then f i else g (i - n)) n = _
    rw [this n (Nat.le_refl _)]
    rfl
  | m + 1 => by
    have h1 := sumW_add (f := f) (g := g) (n := n) m
    show sumW (fun i => if i < n then f i else g (i - n)) (n + m) + (if n + m < n then f (n + m) else g (n + m - n)) = sumW f n + (sumW g m + g m)
    rw [h1, if_neg (by omega), Nat.add_sub_cancel_left]
    omega
theorem sumW_ge {f : Nat → Nat} {n : Nat} (h : ∀ i, i < n → 1 ≤ f i) : n ≤ sumW f n := by
  induction n with
  | zero => exact Nat.zero_le _
  | succ n ih =>
    have := ih (fun i hi => h i (by omega))
    have := h n (by omega)
    unfold sumW
    omega
def TT.wid : TT → Nat
  | .nil => 1
  | .mk _ _ _ _ _ _ _ pa pt ad at_ .. => 1 + (sumW (fun i => (pt i).wid) pa.n + sumW (fun i => (at_ i).wid) ad.n)
theorem TT.wid_pos : ∀ t : TT, 1 ≤ t.wid
  | .nil => Nat.le_refl _
  | .mk .. => by unfold TT.wid; omega
theorem TT.wid_eq (t : TT) : t.wid = 1 + sumW (fun i => (t.alt i).wid) t.nal := by
  cases t with
  | nil => rfl
  | mk kd tn con ext fr nm mo pa pt ad at_ ea en ec et =>
    show 1 + (sumW (fun i => (pt i).wid) pa.n + sumW (fun i => (at_ i).wid) ad.n) = 1 + sumW (fun i => (if i < pa.n then pt i else at_ (i - pa.n)).wid) (pa.n + ad.n)
    rw [← sumW_add]
    congr 2
    funext i
    split <;> rfl
theorem TT.alt_wid {t : TT} {i : Nat} (hi : i < t.nal) : (t.alt i).wid < t.wid := by
  rw [t.wid_eq]
  have := sumW_one (f := fun i => (t.alt i).wid) hi
  omega
theorem TT.nal_wid (t : TT) : t.nal ≤ t.wid := by
  rw [t.wid_eq]
  have := sumW_ge (f := fun i => (t.alt i).wid) (n := t.nal) (fun i _ => (t.alt i).wid_pos)
  omega
/-- what holds of a graph while it is filled: true sets, those that wait, bounds -/
structure GI (l : EL) (Z : Int → Prop) (D : Nat → Bool × TT) (G : GL) (c : Nat) : Prop where
  ok : GOk l Z D G
  wait : GWait G
  left : G.left ≤ 9 * G.m
  m : G.m ≤ 1000000
  most : G.most ≤ 1000000
  el : ∀ p, (G.E p).length ≤ c
theorem GI.mono {l : EL} {Z : Int → Prop} {D : Nat → Bool × TT} {G : GL} {c c' : Nat} (h : GI l Z D G c) (hc : c ≤ c') : GI l Z D G c' := ⟨h.ok, h.wait, h.left, h.m, h.most, fun p => Nat.le_trans (h.el p) hc⟩
theorem GI.q {l : EL} {Z : Int → Prop} {D : Nat → Bool × TT} {G : GL} {c : Nat} (h : GI l Z D G c) : G.Q.length ≤ 1000000000 := by
  have h1 := h.left
  have h2 := h.m
  unfold GL.left at h1
  omega
theorem GI.r {l : EL} {Z : Int → Prop} {D : Nat → Bool × TT} {G : GL} {c : Nat} (h : GI l Z D G c) : G.R.length ≤ 1000000000 := by
  have h1 := nodup_len h.ok.rn (fun x hx => (h.ok.rr x hx).1)
  have h2 := h.ok.ln
  have h3 := h.m
  omega
theorem GI.empty {l : EL} {Z : Int → Prop} {D : Nat → Bool × TT} {G : GL} {c : Nat} (h : GI l Z D G c) {p : Nat} (hp : p < G.m) (hl : ¬ G.live l p) : (G.S p).l = [] := by
  unfold TS.l
  rw [List.filter_eq_nil_iff]
  intro x hx hs
  exact hl (h.ok.lv p hp x hx hs)
theorem GI.give {l : EL} {Z : Int → Prop} {D : Nat → Bool × TT} {G : GL} {c n : Nat} {T : TS} (h : GI l Z D G c) (hn : n < G.m) (hl : G.live l n) (hT : ∀ x, x ∈ univ → T x = true → Tg l (D n).1 (D n).2 x) : GI l Z D (G.give n T) c :=
  ⟨GL.give_ok h.ok hn hl hT, GL.give_wait h.wait n T, Nat.le_trans (GL.give_left hn) h.left, h.m, h.most, h.el⟩
theorem GI.reach {l : EL} {Z : Int → Prop} {D : Nat → Bool × TT} {G : GL} {c p : Nat} (h : GI l Z D G c) (hp : p < l.n) (hz : ∀ x, Tg l (l.f p).auto (l.f p).t x → Z x) : GI l Z D (G.reach p) c :=
  ⟨GL.reach_ok h.ok hp hz, h.wait, h.left, h.m, h.most, h.el⟩
theorem GI.edge {l : EL} {Z : Int → Prop} {D : Nat → Bool × TT} {G : GL} {c p n : Nat} (h : GI l Z D G c) (hn : n < G.m) (hp : p ∈ G.R) (hl : G.live l n) (ht : ∀ x, Tg l (l.f p).auto (l.f p).t x → Tg l (D n).1 (D n).2 x) : GI l Z D (G.edge p n) (c + 1) :=
  ⟨GL.edge_ok h.ok hn hp hl ht, h.wait, h.left, h.m, h.most, fun q => by
    show (if q = p then G.E p ++ [n] else G.E q).length ≤ c + 1
    have h1 := h.el p
    have h2 := h.el q
    split
    · rw [List.length_append]; simp only [List.length_cons, List.length_nil]; omega
    · omega⟩
theorem GI.top {l : EL} {Z : Int → Prop} {D : Nat → Bool × TT} {G : GL} {c k : Nat} (h : GI l Z D G c) (hk : k ≤ 1000000) (hz : 0 < k → Z (1000 + ((k - 1 : Nat) : Int))) : GI l Z D (G.top k) c :=
  ⟨GL.top_ok h.ok hz, h.wait, h.left, h.m, by show max G.most k ≤ _; have := h.most; omega, h.el⟩
/-- what 'refer' does is right -/
theorem GI.refer {l : EL} {Z : Int → Prop} {D : Nat → Bool × TT} {G : GL} {c n : Nat} {a : Bool} {t : TT} (h : GI l Z D G c) (hn : n < G.m) (hl : G.live l n) (hk : t.kd = 11) (ht : ∀ x, Tg l a t x → Tg l (D n).1 (D n).2 x) (hz : ∀ x, Tg l a t x → Z x) :
    GI l Z D (G.refer l n t.nam) (c + 1) ∧ GExt G (G.refer l n t.nam) ∧ Req l (G.refer l n t.nam) n a t := by
  unfold GL.refer
  cases hf : l.fnd t.nam with
  | none =>
    refine ⟨h.mono (by omega), GExt.refl G, Req.leaf (by rw [hk]; decide) ⟨fun _ p hp => ?_, fun e => absurd hk e, fun e => by rw [hk] at e; cases e⟩⟩
    rw [hf] at hp
    cases hp
  | some p =>
    have hp := (EL.fst_lt hf).1
    have h1 : GI l Z D (G.reach p) c := h.reach hp (fun x hx => hz x (.ref hk hf hx))
    refine ⟨h1.edge hn (GL.reach_has G p) ((G.reach_ext p).live hl) (fun x hx => ht x (.ref hk hf hx)), (G.reach_ext p).trans ((G.reach p).edge_ext p n), Req.leaf (by rw [hk]; decide) ⟨fun _ q hq => ?_, fun e => absurd hk e, fun e => by rw [hk] at e; cases e⟩⟩
    rw [hf] at hq
    cases hq
    exact ⟨((G.reach p).edge_ext p n).mem (GL.reach_has G p), GL.edge_has (G.reach p) p n⟩
/-- what 'give' does with a Kind's tag is right -/
theorem GI.leaf {l : EL} {Z : Int → Prop} {D : Nat → Bool × TT} {G : GL} {c n : Nat} {a : Bool} {t : TT} (h : GI l Z D G c) (hn : n < G.m) (hl : G.live l n) (h1 : t.kd ≠ 11) (h2 : t.kd ≠ 10) (ht : ∀ x, Tg l a t x → Tg l (D n).1 (D n).2 x) :
    GI l Z D (G.give n (uni t.kd)) c ∧ GExt G (G.give n (uni t.kd)) ∧ Req l (G.give n (uni t.kd)) n a t :=
  ⟨h.give hn hl (fun x _ hx => ht x (.leaf h1 h2 hx)), G.give_ext n _, Req.leaf h2 ⟨fun e => absurd e h1, fun _ _ x hx => G.give_has n _ hx, fun e => absurd e h2⟩⟩
/-- what 'giveAutomatic' does is right -/
theorem GI.auto {l : EL} {Z : Int → Prop} {D : Nat → Bool × TT} {G : GL} {c n : Nat} {t : TT} (h : GI l Z D G c) (hn : n < G.m) (hl : G.live l n) (hk : t.kd = 10) (hb : t.nal ≤ 1000000) (ht : ∀ x, Tg l true t x → Tg l (D n).1 (D n).2 x) (hz : ∀ x, Tg l true t x → Z x) :
    GI l Z D ((if 0 < t.nal then G.give n (TS.one 1000) else G).top t.nal) c ∧ GExt G ((if 0 < t.nal then G.give n (TS.one 1000) else G).top t.nal) ∧ Req l ((if 0 < t.nal then G.give n (TS.one 1000) else G).top t.nal) n true t := by
  have hz' : 0 < t.nal → Z (1000 + ((t.nal - 1 : Nat) : Int)) := fun h0 => hz _ (.auto hk (by omega))
  by_cases h0 : 0 < t.nal
  · rw [if_pos h0]
    have h1 : GI l Z D (G.give n (TS.one 1000)) c := h.give hn hl (fun x _ hx => by
      have e : x = 1000 := eq_of_beq hx
      subst e
      exact ht _ (Tg.auto (i := 0) hk h0))
    refine ⟨h1.top hb hz', (G.give_ext n _).trans (GL.top_ext _ _), Req.auto ⟨fun e => (by rw [hk] at e; cases e), fun _ e => absurd hk e, fun _ _ _ => ⟨?_, ?_⟩⟩⟩
    · exact G.give_has n _ (by simp [TS.one])
    · exact Nat.le_max_right _ _
  · rw [if_neg h0]
    exact ⟨h.top hb hz', GL.top_ext _ _, Req.auto ⟨fun e => (by rw [hk] at e; cases e), fun _ e => absurd hk e, fun _ _ e => absurd e h0⟩⟩
end Go.Proofs.Ytecedbjkebdeaaa
