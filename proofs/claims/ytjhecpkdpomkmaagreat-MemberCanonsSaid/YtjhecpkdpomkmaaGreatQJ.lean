/-
  A bundle of texts, one behind the other: TgM, TgC, MbC.
-/
import Derived.Test.YtjhecpkdpomkmaaGreatQA
import Derived.Lib.AppendZeros
import Derived.Deep.AppendLies
import Derived.Laws.AppendOwnNone
import Derived.Test.YtjhecpkdpomkmaaGreatQB
namespace Go.Proofs.YtjhecpkdpomkmaaGreat
open Go.RowKit
set_option linter.unusedVariables false
set_option linter.unusedSimpArgs false
set_option maxRecDepth 100000

/-- the tags that stand in sets: 1000 for all automatic ones -/
def univ : List Int := [1, 2, 3, 4, 5, 10, 16, 22, 1000]
abbrev TS := Int → Bool
def TS.l (S : TS) : List Int := univ.filter S
def TS.or (S T : TS) : TS := fun x => S x || T x
def TS.one (y : Int) : TS := fun x => x == y
def TS.no : TS := fun _ => false
/-- a Kind's universal tag; 0: none -/
def ut (k : Int) : Int :=
  if k = 1 then 1 else if k = 2 then 2 else if k = 3 then 10 else if k = 4 then 5 else if k = 5 then 3 else if k = 6 then 4 else if k = 7 then 22 else if k = 8 then 16 else if k = 9 then 16 else 0
def uni (k : Int) : TS := fun x => x == ut k && decide (0 < ut k)
theorem ut_univ (k : Int) : 0 < ut k → ut k ∈ univ ∧ ut k < 1000 := by
  unfold ut univ
  repeat' split
  all_goals simp
theorem uni_univ {k x : Int} (h : uni k x = true) : x ∈ univ ∧ x < 1000 ∧ x = ut k := by
  unfold uni at h
  simp only [Bool.and_eq_true, beq_iff_eq, decide_eq_true_eq] at h
  obtain ⟨rfl, h⟩ := h
  exact ⟨(ut_univ k h).1, (ut_univ k h).2, rfl⟩
theorem univ_pos {x : Int} (h : x ∈ univ) : 1 ≤ x ∧ x ≤ 1000 := by
  unfold univ at h
  simp only [List.mem_cons, List.not_mem_nil, or_false] at h
  omega
/-! types -/
def TT.kd : TT → Int
  | .nil => 0
  | .mk kd .. => kd
def TT.nam : TT → ByteArray
  | .nil => ByteArray.empty
  | .mk _ nm .. => nm
def TT.pn : TT → Nat
  | .nil => 0
  | .mk _ _ _ _ _ _ _ pa .. => pa.n
def TT.an : TT → Nat
  | .nil => 0
  | .mk _ _ _ _ _ _ _ _ _ ad .. => ad.n
def TT.en : TT → Nat
  | .nil => 0
  | .mk _ _ _ _ _ _ _ _ _ _ _ _ en .. => en
def TT.et : TT → Nat → TT
  | .nil, _ => .nil
  | .mk _ _ _ _ _ _ _ _ _ _ _ _ _ _ et, i => et i
/-- the types of the parts, then of what is added -/
def TT.alt : TT → Nat → TT
  | .nil, _ => .nil
  | .mk _ _ _ _ _ _ _ pa pt _ at_ .., i => if i < pa.n then pt i else at_ (i - pa.n)
def TT.ald : TT → Nat → PD
  | .nil, _ => ⟨ByteArray.empty, false, ⟨none, 0, 0, fun _ => .nil⟩⟩
  | .mk _ _ _ _ _ _ _ pa _ ad .., i => if i < pa.n then pa.f i else ad.f (i - pa.n)
def TT.nal (t : TT) : Nat := t.pn + t.an
/-- an entry of a schema -/
structure ET where
  mod : ByteArray
  name : ByteArray
  auto : Bool
  t : TT
def ET.cells (e : ET) : List Value := [.string e.mod, .string e.name, .bool e.auto] ++ e.t.cells
def ET.full (e : ET) : List UInt8 := e.mod.data.toList ++ (46 :: e.name.data.toList)
def EIn (B : Nat) (W : World) (e : ET) : Prop := e.mod.size ≤ 140737488355328 ∧ e.name.size ≤ 140737488355328 ∧ TIn B W e.t
theorem EIn.below {B B' : Nat} {W W' : World} {e : ET} (h : EIn B W e) (hb : Below B' W W') (hB : B ≤ B') : EIn B' W' e := ⟨h.1, h.2.1, h.2.2.below hb hB⟩
/-- a list of entries -/
structure EL where
  a : Option Addr
  n : Nat
  cap : Nat
  f : Nat → ET
def EL.v (l : EL) : Value := .slice l.a l.n l.cap
def ELIn (B : Nat) (W : World) (l : EL) : Prop := RowAt B W l.a l.n l.n 18 (fun i => (l.f i).cells) ∧ ∀ i, i < l.n → EIn B W (l.f i)
theorem ELIn.below {B B' : Nat} {W W' : World} {l : EL} (h : ELIn B W l) (hb : Below B' W W') (hB : B ≤ B') : ELIn B' W' l := ⟨h.1.below hb hB, fun i hi => (h.2 i hi).below hb hB⟩
/-- the first of k entries with a full name -/
def EL.fst (l : EL) (s : ByteArray) : Nat → Option Nat
  | 0 => none
  | k + 1 => match l.fst s k with
    | some p => some p
    | none => if (l.f k).full = s.data.toList then some k else none
def EL.fnd (l : EL) (s : ByteArray) : Option Nat := l.fst s l.n
/-- the tags that a type has, by the document: the least sets -/
inductive Tg (l : EL) : Bool → TT → Int → Prop
  | leaf {a : Bool} {t : TT} {x : Int} : t.kd ≠ 11 → t.kd ≠ 10 → uni t.kd x = true → Tg l a t x
  | auto {t : TT} {i : Nat} : t.kd = 10 → i < t.nal → Tg l true t (1000 + i)
  | alt {t : TT} {i : Nat} {x : Int} : t.kd = 10 → i < t.nal → Tg l false (t.alt i) x → Tg l false t x
  | ref {a : Bool} {t : TT} {p : Nat} {x : Int} : t.kd = 11 → l.fnd t.nam = some p → Tg l (l.f p).auto (l.f p).t x → Tg l a t x
/-- a type, and what stands among its alternatives -/
inductive Alt : Bool → TT → Bool → TT → Prop
  | here {a : Bool} {t : TT} : Alt a t a t
  | down {t t' : TT} {a' : Bool} {i : Nat} : t.kd = 10 → i < t.nal → Alt false (t.alt i) a' t' → Alt false t a' t'
theorem Alt.snoc {a : Bool} {t t' : TT} {b : Bool} (h : Alt a t b t') : ∀ {i : Nat}, b = false → t'.kd = 10 → i < t'.nal → Alt a t false (t'.alt i) := by
  induction h with
  | here => intro i hb hk hi; subst hb; exact .down hk hi .here
  | down h1 h2 _ ih => intro i hb hk hi; exact .down h1 h2 (ih hb hk hi)
theorem Tg.pos {l : EL} {a : Bool} {t : TT} {x : Int} (h : Tg l a t x) : 1 ≤ x ∧ (x < 1000 → x ∈ univ) := by
  induction h with
  | leaf _ _ h => exact ⟨(univ_pos (uni_univ h).1).1, fun _ => (uni_univ h).1⟩
  | auto _ _ => exact ⟨by omega, fun h => by omega⟩
  | alt _ _ _ ih => exact ih
  | ref _ _ _ ih => exact ih
/-! the graph -/
/-- what a graph holds: how many types; the entries that are reached; those whose sets have grown; sets; whom each gives to; the most automatic tags -/
structure GL where
  m : Nat
  R : List Nat
  Q : List Nat
  S : Nat → TS
  E : Nat → List Nat
  most : Nat
def GL.live (l : EL) (G : GL) (n : Nat) : Prop := n ∈ G.R ∨ l.n ≤ n
/-- a graph whose sets are true: D: which type each number has; Z: what is looked for at all -/
structure GOk (l : EL) (Z : Int → Prop) (D : Nat → Bool × TT) (G : GL) : Prop where
  ln : l.n ≤ G.m
  de : ∀ p, p < l.n → D p = ((l.f p).auto, (l.f p).t)
  sn : ∀ n, n < G.m → ∀ x, x ∈ univ → G.S n x = true → Tg l (D n).1 (D n).2 x
  lv : ∀ n, n < G.m → ∀ x, x ∈ univ → G.S n x = true → G.live l n
  ed : ∀ p, p < G.m → ∀ n, n ∈ G.E p → n < G.m ∧ p ∈ G.R ∧ G.live l n ∧ ∀ x, Tg l (l.f p).auto (l.f p).t x → Tg l (D n).1 (D n).2 x
  rr : ∀ p, p ∈ G.R → p < l.n ∧ ∀ x, Tg l (l.f p).auto (l.f p).t x → Z x
  rn : G.R.Nodup
  qq : ∀ n, n ∈ G.Q → n < G.m ∧ G.live l n
  mo : 0 < G.most → Z (1000 + ((G.most - 1 : Nat) : Int))
/-- each set that is not empty stands to be handed on -/
def GWait (G : GL) : Prop := ∀ n, n < G.m → ∀ x, x ∈ univ → G.S n x = true → n ∈ G.Q
/-- nothing goes -/
structure GExt (G G' : GL) : Prop where
  m : G'.m = G.m
  R : ∃ r, G'.R = G.R ++ r
  S : ∀ n x, G.S n x = true → G'.S n x = true
  E : ∀ p n, n ∈ G.E p → n ∈ G'.E p
  most : G.most ≤ G'.most
theorem GExt.refl (G : GL) : GExt G G := ⟨rfl, ⟨[], by simp⟩, fun _ _ h => h, fun _ _ h => h, Nat.le_refl _⟩
theorem GExt.trans {G G' G'' : GL} (h : GExt G G') (k : GExt G' G'') : GExt G G'' := by
  obtain ⟨r, hr⟩ := h.R
  obtain ⟨r', hr'⟩ := k.R
  exact ⟨k.m.trans h.m, ⟨r ++ r', by rw [hr', hr, List.append_assoc]⟩, fun n x hx => k.S n x (h.S n x hx), fun p n hn => k.E p n (h.E p n hn), Nat.le_trans h.most k.most⟩
theorem GExt.mem {G G' : GL} (h : GExt G G') {p : Nat} (hp : p ∈ G.R) : p ∈ G'.R := by
  obtain ⟨r, hr⟩ := h.R
  rw [hr]
  exact List.mem_append_left _ hp
theorem GExt.live {l : EL} {G G' : GL} (h : GExt G G') {n : Nat} (hn : G.live l n) : G'.live l n := hn.imp (fun h1 => h.mem h1) id
/-- what a type that stands among the alternatives of number n asks -/
def Loc (l : EL) (G : GL) (n : Nat) (a : Bool) (t : TT) : Prop :=
  (t.kd = 11 → ∀ p, l.fnd t.nam = some p → p ∈ G.R ∧ n ∈ G.E p) ∧ (t.kd ≠ 11 → t.kd ≠ 10 → ∀ x, uni t.kd x = true → G.S n x = true) ∧ (t.kd = 10 → a = true → 0 < t.nal → G.S n 1000 = true ∧ t.nal ≤ G.most)
def Req (l : EL) (G : GL) (n : Nat) (a : Bool) (t : TT) : Prop := ∀ a' t', Alt a t a' t' → Loc l G n a' t'
theorem Loc.ext {l : EL} {G G' : GL} (h : GExt G G') {n : Nat} {a : Bool} {t : TT} (k : Loc l G n a t) : Loc l G' n a t :=
  ⟨fun e p hp => ⟨h.mem (k.1 e p hp).1, h.E _ _ (k.1 e p hp).2⟩, fun e1 e2 x hx => h.S _ _ (k.2.1 e1 e2 x hx), fun e1 e2 e3 => ⟨h.S _ _ (k.2.2 e1 e2 e3).1, Nat.le_trans (k.2.2 e1 e2 e3).2 h.most⟩⟩
theorem Req.ext {l : EL} {G G' : GL} (h : GExt G G') {n : Nat} {a : Bool} {t : TT} (k : Req l G n a t) : Req l G' n a t := fun a' t' ha => (k a' t' ha).ext h
theorem Req.leaf {l : EL} {G : GL} {n : Nat} {a : Bool} {t : TT} (hk : t.kd ≠ 10) (h : Loc l G n a t) : Req l G n a t := by
  intro a' t' ha
  cases ha with
  | here => exact h
  | down h1 => exact absurd h1 hk
theorem Req.auto {l : EL} {G : GL} {n : Nat} {t : TT} (h : Loc l G n true t) : Req l G n true t := by
  intro a' t' ha
  cases ha with
  | here => exact h
/-- all that is reached has been gone through, and all is handed on -/
structure GDone (l : EL) (D : Nat → Bool × TT) (G : GL) : Prop where
  ent : ∀ p, p ∈ G.R → Req l G p (l.f p).auto (l.f p).t
  cl : ∀ p, p < G.m → ∀ n, n ∈ G.E p → ∀ x, x ∈ univ → G.S p x = true → G.S n x = true
/-- a tag as it stands in a set -/
def inSet (x : Int) : Int := if x < 1000 then x else 1000
end Go.Proofs.YtjhecpkdpomkmaaGreat

namespace Go.Proofs.YtjhecpkdpomkmaaGreat
open Go.RowKit
set_option linter.unusedVariables false
set_option linter.unusedSimpArgs false
set_option maxRecDepth 100000

theorem info_parts {t : TypeId} {z : Value} {s b : Nat} (h : (Tryz.prog.info? t).map (fun i => (i.zero, i.size, i.bytes)) = some (some z, s, b)) :
    ∃ i, Tryz.prog.info? t = some i ∧ i.zero = some z ∧ i.size = s ∧ i.bytes = b := by
  cases hi : Tryz.prog.info? t with
  | none => rw [hi] at h; cases h
  | some i =>
    rw [hi] at h
    simp only [Option.map_some, Option.some.injEq, Prod.mk.injEq] at h
    exact ⟨i, rfl, h.1, h.2.1, h.2.2⟩
/-- n elements' cells, one behind the other -/
def flat (f : Nat → List Value) : Nat → List Value
  | 0 => []
  | n + 1 => flat f n ++ f n
theorem flat_len {f : Nat → List Value} {k : Nat} : ∀ {n : Nat}, (∀ i, i < n → (f i).length = k) → (flat f n).length = n * k
  | 0, _ => by simp [flat]
  | n + 1, h => by
    have h1 := flat_len (n := n) (fun i hi => h i (by omega))
    unfold flat
    rw [List.length_append, h1, h n (by omega), Nat.add_mul, Nat.one_mul]
theorem flat_at {f : Nat → List Value} {k : Nat} : ∀ {n : Nat}, (∀ i, i < n → (f i).length = k) → ∀ {i r : Nat}, i < n → r < k → (flat f n)[i * k + r]? = (f i)[r]?
  | 0, _, i, _, hi, _ => absurd hi (Nat.not_lt_zero i)
  | n + 1, h, i, r, hi, hr => by
    have h1 := flat_len (n := n) (fun i hi => h i (by omega))
    unfold flat
    rcases Nat.lt_or_ge i n with h2 | h2
    · have h3 : i * k + r < n * k := by
        have : (i + 1) * k ≤ n * k := Nat.mul_le_mul_right k h2
        rw [Nat.add_mul, Nat.one_mul] at this
        omega
      rw [List.getElem?_append_left (by omega)]
      exact flat_at (fun i hi => h i (by omega)) h2 hr
    · obtain rfl : i = n := by omega
      rw [List.getElem?_append_right (by omega), h1]
      congr 1
      omega
theorem flat_get {f : Nat → List Value} {k : Nat} (hk : 0 < k) {n : Nat} (h : ∀ i, i < n → (f i).length = k) {j : Nat} {u : Value} (hj : (flat f n)[j]? = some u) : ∃ i r, i < n ∧ r < k ∧ j = i * k + r ∧ (f i)[r]? = some u := by
  have hlt : j < n * k := by
    rw [← flat_len h]
    exact (List.getElem?_eq_some_iff.1 hj).1
  have h1 : j / k < n := (Nat.div_lt_iff_lt_mul hk).2 hlt
  have h2 := Nat.mod_lt j hk
  have h3 : j = j / k * k + j % k := by rw [Nat.mul_comm]; exact (Nat.div_add_mod j k).symm
  refine ⟨j / k, j % k, h1, h2, h3, ?_⟩
  rw [h3, flat_at h h1 h2] at hj
  exact hj
theorem flat_add {f g : Nat → List Value} {n : Nat} : ∀ m, flat f n ++ flat g m = flat (fun i => if i < n then f i else g (i - n)) (n + m)
  | 0 => by
    have : ∀ k, k ≤ n → flat f k = flat (fun i => if i < n then f i else g (i - n)) k := by
      intro k
      induction k with
      | zero => intro _; rfl
      | succ k ih =>
        intro hk
        show flat f k ++ f k = flat (fun i => if i < n then f i else g (i - n)) k ++ (if k < n then f k else g (k - n))
        rw [← ih (by omega), if_pos (by omega)]
    show flat f n ++ [] = _
    rw [List.append_nil]
    exact this n (Nat.le_refl _)
  | m + 1 => by
    have h1 := flat_add (f := f) (g := g) (n := n) m
    show flat f n ++ (flat g m ++ g m) = flat (fun i => if i < n then f i else g (i - n)) (n + m) ++ (if n + m < n then f (n + m) else g (n + m - n))
    rw [← List.append_assoc, h1, if_neg (by omega), Nat.add_sub_cancel_left]
theorem flat_one {f : Nat → List Value} {n : Nat} (h : ∀ i, i < n → ∀ u ∈ f i, u.oneCell' = true) : ∀ u ∈ flat f n, u.oneCell' = true := by
  induction n with
  | zero => intro u hu; cases hu
  | succ n ih =>
    intro u hu
    unfold flat at hu
    rcases List.mem_append.1 hu with h1 | h1
    · exact ih (fun i hi => h i (by omega)) u h1
    · exact h n (by omega) u h1
/-- a slice whose elements of k cells are read so -/
def PRow (base : Nat) (W : World) (v : Value) (n : Nat) (cells : Nat → List Value) : Prop :=
  ∃ a cap, v = .slice a n cap ∧ n ≤ cap ∧ ∀ i, i < n → ∃ g o, (∀ w, (Instr.indexAt 201 v (.int .i64 (i : Nat))).run Tryz.prog w = .ok (.pointer (some ⟨g, o, none⟩)) w) ∧ base ≤ g ∧ g < W.heap.size ∧ W.rangeAt g o (cells i)
def zeroP : Value := .agg #[.string ⟨#[]⟩, .int .i64 0, .string ⟨#[]⟩, .int .i64 0, .int .i64 0, .int .i64 0, .bool false, .bool false, .slice none 0 0, .bool false, .string ⟨#[]⟩, .slice none 0 0, .slice none 0 0, .slice none 0 0, .slice none 0 0, .slice none 0 0, .bool false, .slice none 0 0]
theorem PRow.of {W : World} {base n : Nat} {v : Value} {f : Nat → List Value} (hl : ∀ i, i < n → (f i).length = 18) (h : W.ownsRow base 318 18 v n (flat f n)) : PRow base W v n f := by
  have hlt := h.lt
  have hc := fun g (hg : v.ownBlock = some g) => h.cells hg
  rcases h.2 with ⟨rfl, h0⟩ | ⟨g, cap, cur, rfl, hb, hg, hnc, _⟩
  · exact ⟨none, 0, by rw [h0], by omega, fun i hi => by omega⟩
  · refine ⟨_, _, rfl, hnc, fun i hi => ⟨g, i * 18, fun w => ?_, hb, (hlt g rfl).2, fun j u hu => ?_⟩⟩
    · rw [run_indexAt_slice (h := by rw [show Tryz.prog.elem 201 = 318 from by kernel_rfl]; exact Tryz.underlying201), if_pos (by omega), show Tryz.prog.elem 201 = 318 from by kernel_rfl, Tryz.sizeOf318]
      simp [Result.andThen, Addr.add_mid]
    · have hj : j < 18 := by rw [← hl i hi]; exact (List.getElem?_eq_some_iff.1 hu).1
      have := hc g rfl (i * 18 + j) u (by rw [flat_at hl hi hj]; exact hu)
      rw [Addr.add_mid, Nat.zero_add] at this
      exact this
/-- how many, behind k of the two -/
def cnt2 (pn an : Nat) (k : Nat) : Nat := if k = 0 then 0 else if k = 1 then pn else pn + an
def flat2 (F1 F2 : List Value) (k : Nat) : List Value := if k = 0 then [] else if k = 1 then F1 else F1 ++ F2
def RelC1 (pn an : Nat) (w : World) (sv iv : Value) (wr : World) : Prop := ∃ k : Nat, k ≤ 2 ∧ iv = .int .i64 (k : Nat) ∧ sv = .int .i64 (cnt2 pn an k : Nat) ∧ wr = w
def RelC2 (F1 F2 : List Value) (pn an : Nat) (w : World) (vv iv : Value) (wr : World) : Prop := ∃ k : Nat, k ≤ 2 ∧ iv = .int .i64 (k : Nat) ∧ wr.ownsRow w.heap.size 318 18 vv (cnt2 pn an k) (flat2 F1 F2 k) ∧ Below w.heap.size w wr
end Go.Proofs.YtjhecpkdpomkmaaGreat

namespace Go.Proofs.YtjhecpkdpomkmaaGreat
open Go.RowKit
set_option linter.unusedVariables false
set_option linter.unusedSimpArgs false
set_option maxRecDepth 100000

def zeroS : Value := .string ⟨#[]⟩
theorem info_PzS : (Tryz.prog.info? 9).map (fun i => (i.zero, i.size, i.bytes)) = some (some zeroS, 1, 16) := by kernel_rfl

set_option maxHeartbeats 2000000 in
/-- slices.Grow of nil: nil, or a row of no elements with room -/
theorem growPS_ok (w : World) (n : Nat) (hn : n ≤ 100000) :
    Calls Tryz.prog 239 #[.slice none 0 0, .int .i64 (n : Nat)] w fun e w' => ∃ v, e = .returned v ∧ w'.ownsRow w.heap.size 9 1 v 0 [] ∧ Below w.heap.size w w' := by
  obtain ⟨i0, hi0, hz0, hz1, hz2⟩ := info_parts info_PzS
  have HB0 := Lib.hid (Below.refl w.heap.size w)
  have q0 : decide ((n : Int) < 0) = false := decide_eq_false (by omega)
  have q3 : IntKind.i64.wrap ((n : Int) - 0) = (n : Int) := by rw [Int.sub_zero]; exact wrap_ok (by unfold I64; omega)
  by_cases h0 : 0 < n
  · have q1 : decide ((0 : Int) < (n : Int)) = true := decide_eq_true (by omega)
    have q1n : decide (0 < n) = true := decide_eq_true h0
    have hg := Lib.run_append_nil_zeros (P := Tryz.prog) w 23 3 23 9 i0 zeroS .i64 .i64 Tryz.underlying23 Tryz.underlying3 hi0 hz0 n h0 (by rw [hz1]; decide) (by omega) (by rw [hz2]; omega)
    have hge := grownCap_ge w n 0 9
    have hcm := grownCap_le_maxLen w n 0 9 (by unfold maxLen; omega)
    generalize grownCap w n 0 9 = cap at hg hge hcm
    have HOWN := Lib.hid (World.ownsRow_made (base := w.heap.size) (e := 9) (size := 1) w.drew (Builtin.zeroCells zeroS.cells n ++ Builtin.zeroCells zeroS.cells (cap - n)) cap (Nat.le_refl _) hcm (by
      rw [Array.size_append, size_zeroCells, size_zeroCells, show zeroS.cells.size = 1 from rfl, ← Nat.add_mul]
      congr 1
      omega))
    have HBB := Lib.hid ((Below.drew HB0.out).alloc (w := w.drew) (Nat.le_refl _) (.cells (Builtin.zeroCells zeroS.cells n ++ Builtin.zeroCells zeroS.cells (cap - n)) 9))
    generalize Builtin.zeroCells zeroS.cells n ++ Builtin.zeroCells zeroS.cells (cap - n) = cur at hg HOWN HBB
    clear h0 hz0 hz1 hz2 hi0 hcm
    go_enter Tryz.func239, Tryz.ntmps239
    go_wp2_with (at_builtin; refine Lib.wpList_append_run _ rfl _ _ _ _ rfl _ _ rfl rfl _ _ hg ?_)
    go_ret
    exact ⟨_, rfl, HOWN.out, HBB.out⟩
  · obtain rfl : n = 0 := by omega
    go_enter Tryz.func239, Tryz.ntmps239
    go_wp2_with fail
    go_ret
    exact ⟨_, rfl, World.ownsRow_nil _ _ _ _, HB0.out⟩

theorem row_newsS {B : Nat} {W : World} {a : Option Addr} {n cap : Nat} {f : Nat → List Value} (h : RowAt B W a n cap 1 f) (hl : ∀ i, i < n → (f i).length = 1) :
    (a = none ∧ n = 0 ∧ cap = 0) ∨ ∃ ad, a = some ad ∧ ∀ W' : World, Below B W W' → ∀ j u, (flat f n)[j]? = some u → W'.cell? (ad.add j) = some u := by
  rcases Nat.eq_zero_or_pos n with h0 | h0
  · cases a with
    | none => exact .inl ⟨rfl, (h.2.2.1 rfl).1, (h.2.2.1 rfl).2⟩
    | some ad => exact .inr ⟨ad, rfl, fun W' _ j u hu => by rw [h0] at hu; cases hu⟩
  · obtain ⟨g, o, rfl, hg, hc⟩ := h.2.2.2 h0
    refine .inr ⟨_, rfl, fun W' hb j u hu => ?_⟩
    obtain ⟨i, r, hi, hr, rfl, hu2⟩ := flat_get (by decide) hl hu
    rw [Addr.add_mid, ← Nat.add_assoc]
    exact (hb.cell (p := ⟨g, o + i * 1 + r, none⟩) hg).trans (hc i hi r u hu2)
def RelC2S (F1 F2 : List Value) (pn an : Nat) (w : World) (vv iv : Value) (wr : World) : Prop := ∃ k : Nat, k ≤ 2 ∧ iv = .int .i64 (k : Nat) ∧ wr.ownsRow w.heap.size 9 1 vv (cnt2 pn an k) (flat2 F1 F2 k) ∧ Below w.heap.size w wr
set_option maxHeartbeats 8000000 in
theorem concatS_ok (w : World) (B g0 : Nat) (pa : Option Addr) (pn pc : Nat) (f : Nat → List Value) (aa : Option Addr) (an ac : Nat) (g : Nat → List Value) (hB : B ≤ w.heap.size) (hg0 : g0 < w.heap.size)
    (hc0 : w.cell? ⟨g0, 0, none⟩ = some (.slice pa pn pc)) (hc1 : w.cell? ⟨g0, 1, none⟩ = some (.slice aa an ac)) (hp : RowAt B w pa pn pc 1 f) (ha : RowAt B w aa an ac 1 g)
    (hlf : ∀ i, i < pn → (f i).length = 1) (hlg : ∀ i, i < an → (g i).length = 1) (hof : ∀ i, i < pn → ∀ u ∈ f i, u.oneCell' = true) (hog : ∀ i, i < an → ∀ u ∈ g i, u.oneCell' = true) (hpn : pn ≤ 10000) (han : an ≤ 10000) :
    Calls Tryz.prog 200 #[.slice (some ⟨g0, 0, none⟩) 2 2] w fun e w' => ∃ v, e = .returned v ∧ w'.ownsRow w.heap.size 9 1 v (pn + an) (flat f pn ++ flat g an) ∧ Below w.heap.size w w' := by
  obtain ⟨i0, hi0, hz0, hz1, hz2⟩ := info_parts info_PzS
  have HN1 := Lib.hid (row_newsS hp hlf)
  have HN2 := Lib.hid (row_newsS ha hlg)
  have HL1 := Lib.hid (flat_len hlf)
  have HL2 := Lib.hid (flat_len hlg)
  have HO1 := Lib.hid (flat_one hof)
  have HO2 := Lib.hid (flat_one hog)
  have HBB := Lib.hid hB
  have HFIN := Lib.hid (show ∀ (W : World) (v : Value), W.ownsRow w.heap.size 9 1 v (pn + an) (flat f pn ++ flat g an) → W.ownsRow w.heap.size 9 1 v (pn + an) (flat f pn ++ flat g an) from fun W v h => h)
  have HC := Lib.hid (fun (W : World) (hb : Below w.heap.size w W) => And.intro ((hb.cell (p := ⟨g0, 0, none⟩) hg0).trans hc0) ((hb.cell (p := ⟨g0, 1, none⟩) hg0).trans hc1))
  have HB0 := Lib.hid (Below.refl w.heap.size w)
  clear hp ha hlf hlg hof hog hB
  generalize flat f pn = F1 at *
  generalize flat g an = F2 at *
  have e0 : cnt2 pn an 0 = 0 := rfl
  have e1 : cnt2 pn an 1 = pn := rfl
  have e2 : cnt2 pn an 2 = pn + an := rfl
  go_enter Tryz.func200, Tryz.ntmps200
  go_wp2_with fail
  go_loopw [3, 11] (fun sv iv wr => RelC1 pn an w sv iv wr) (fun _ iv _ => 2 - (Lib.intOf iv).toNat)
  case atStart => exact ⟨0, by omega, rfl, rfl, rfl⟩
  case round =>
    obtain ⟨k, hk, rfl, rfl, hwr⟩ := hrel
    obtain rfl : w = wr := hwr.symm
    rcases (by omega : k = 0 ∨ k = 1 ∨ k = 2) with rfl | rfl | rfl
    · have q2 : IntKind.i64.wrap (0 + (pn : Int)) = (pn : Int) := by rw [Int.zero_add]; exact wrap_ok (by unfold I64; omega)
      have q3 : decide ((pn : Int) < 0) = false := decide_eq_false (by omega)
      rw [e0]
      go_wp2_with fail
      go_roundw
      case rel => exact ⟨1, by omega, rfl, rfl, rfl⟩
      case measure => decide
    · have q2 : IntKind.i64.wrap ((pn : Int) + (an : Int)) = ((pn + an : Nat) : Int) := (wrap_ok (by unfold I64; omega)).trans (by omega)
      have q3 : decide (((pn + an : Nat) : Int) < 0) = false := decide_eq_false (by omega)
      rw [e1]
      generalize pn + an = N at *
      go_wp2_with fail
      go_roundw
      case rel => exact ⟨2, by omega, rfl, by rw [e2], rfl⟩
      case measure => decide
    · rw [e2]
      have HG := Lib.hid (growPS_ok w (pn + an) (by omega))
      generalize pn + an = N at *
      go_wp2_with fail
      refine HG.out.mono ?_
      rintro e w1 ⟨v, rfl, hown, hb⟩
      have HOW := Lib.hid hown
      have HB1 := Lib.hid hb
      clear hown hb hc0 hc1
      go_wp2_with fail
      clear hg0
      go_loopw [6, 27] (fun vv iv wr => RelC2S F1 F2 pn an w vv iv wr) (fun _ iv _ => 2 - (Lib.intOf iv).toNat)
      case atStart => exact ⟨0, by omega, rfl, HOW.out, HB1.out⟩
      case round =>
      obtain ⟨k, hk, rfl, hown2, hb2⟩ := hrel
      have HB2 := Lib.hid hb2
      clear hb2
      rcases (by omega : k = 0 ∨ k = 1 ∨ k = 2) with rfl | rfl | rfl
      · have HOW3 := Lib.hid (show wr.ownsRow w.heap.size 9 1 _ 0 [] from hown2)
        have c0 := (HC.out _ HB2.out).1
        clear hown2
        rcases HN1.out with ⟨rfl, rfl, rfl⟩ | ⟨ad, rfl, hnews⟩
        · go_wp2_with (at_builtin; refine wpList_append_own_none rfl (.tmp 31) (.tmp 32) 23 rfl w.heap.size 9 i0 1 Tryz.underlying23 hi0 _ 0 [] rfl HOW3.out rfl ?_)
          go_roundw
          case rel => exact ⟨1, by omega, rfl, by have h := HOW3.out; have h1 := HL1.out; rw [Nat.zero_mul] at h1; obtain rfl := List.eq_nil_of_length_eq_zero h1; exact h, HB2.out⟩
          case measure => decide
        · have HNW := Lib.hid (hnews wr (HB2.out.mono HBB.out))
          clear hnews
          go_wp2_with (at_builtin; refine wpList_append_own _ rfl (.tmp 31) (.tmp 32) 23 rfl w.heap.size 9 i0 zeroS 1 16 Tryz.underlying23 hi0 hz0 hz1 hz2 rfl (by decide) _ 0 [] rfl HOW3.out ad pn pc F1 rfl HL1.out HNW.out HO1.out (by unfold maxLen; omega) (by omega) HB2.out.size ?_; intro v4 w4 ho4 hg4 _; have HO4 := Lib.hid ho4; have HG4 := Lib.hid hg4; clear ho4 hg4)
          go_roundw
          case rel => exact ⟨1, by omega, rfl, by have h := HO4.out; rw [Nat.zero_add] at h; exact h, HB2.out.grown HG4.out HB2.out.size (fun k hk => (HOW3.out.lt k hk).1)⟩
          case measure => decide
      · have HOW3 := Lib.hid (show wr.ownsRow w.heap.size 9 1 _ pn F1 from hown2)
        have c0 := (HC.out _ HB2.out).2
        clear hown2
        rcases HN2.out with ⟨rfl, rfl, rfl⟩ | ⟨ad, rfl, hnews⟩
        · go_wp2_with (at_builtin; refine wpList_append_own_none rfl (.tmp 31) (.tmp 32) 23 rfl w.heap.size 9 i0 1 Tryz.underlying23 hi0 _ pn F1 rfl HOW3.out rfl ?_)
          go_roundw
          case rel => exact ⟨2, by omega, rfl, by have h := HOW3.out; have h1 := HL2.out; rw [Nat.zero_mul] at h1; obtain rfl := List.eq_nil_of_length_eq_zero h1; show World.ownsRow _ _ _ _ _ (cnt2 pn 0 2) (F1 ++ []); rw [List.append_nil]; exact h, HB2.out⟩
          case measure => decide
        · have HNW := Lib.hid (hnews wr (HB2.out.mono HBB.out))
          clear hnews
          go_wp2_with (at_builtin; refine wpList_append_own _ rfl (.tmp 31) (.tmp 32) 23 rfl w.heap.size 9 i0 zeroS 1 16 Tryz.underlying23 hi0 hz0 hz1 hz2 rfl (by decide) _ pn F1 rfl HOW3.out ad an ac F2 rfl HL2.out HNW.out HO2.out (by unfold maxLen; omega) (by omega) HB2.out.size ?_; intro v4 w4 ho4 hg4 _; have HO4 := Lib.hid ho4; have HG4 := Lib.hid hg4; clear ho4 hg4)
          go_roundw
          case rel => exact ⟨2, by omega, rfl, HO4.out, HB2.out.grown HG4.out HB2.out.size (fun k hk => (HOW3.out.lt k hk).1)⟩
          case measure => decide
      · have hown3 := hown2
        rw [e2] at hown3
        have HP := Lib.hid (HFIN.out _ _ hown3)
        clear hown2 hown3
        go_wp2_with fail
        go_ret
        refine ⟨_, rfl, ?_, HB2.out⟩
        rw [show pn + an = N from e2]
        exact HP.out
/-- a slice whose elements of k cells are read so -/
def PRowF (base : Nat) (W : World) (v : Value) (n : Nat) (cells : Nat → List Value) : Prop :=
  ∃ a cap, v = .slice a n cap ∧ n ≤ cap ∧ ∀ i, i < n → ∃ g o, (∀ w, (Instr.indexAt 43 v (.int .i64 (i : Nat))).run Tryz.prog w = .ok (.pointer (some ⟨g, o, none⟩)) w) ∧ base ≤ g ∧ g < W.heap.size ∧ W.rangeAt g o (cells i)
def zeroF : Value := .agg #[.string ⟨#[]⟩, .int .i64 0, .bool false, .slice none 0 0]
theorem info_PzF : (Tryz.prog.info? 48).map (fun i => (i.zero, i.size, i.bytes)) = some (some zeroF, 4, 56) := by kernel_rfl

set_option maxHeartbeats 2000000 in
/-- slices.Grow of nil: nil, or a row of no elements with room -/
theorem growPF_ok (w : World) (n : Nat) (hn : n ≤ 100000) :
    Calls Tryz.prog 240 #[.slice none 0 0, .int .i64 (n : Nat)] w fun e w' => ∃ v, e = .returned v ∧ w'.ownsRow w.heap.size 48 4 v 0 [] ∧ Below w.heap.size w w' := by
  obtain ⟨i0, hi0, hz0, hz1, hz2⟩ := info_parts info_PzF
  have HB0 := Lib.hid (Below.refl w.heap.size w)
  have q0 : decide ((n : Int) < 0) = false := decide_eq_false (by omega)
  have q3 : IntKind.i64.wrap ((n : Int) - 0) = (n : Int) := by rw [Int.sub_zero]; exact wrap_ok (by unfold I64; omega)
  by_cases h0 : 0 < n
  · have q1 : decide ((0 : Int) < (n : Int)) = true := decide_eq_true (by omega)
    have q1n : decide (0 < n) = true := decide_eq_true h0
    have hg := Lib.run_append_nil_zeros (P := Tryz.prog) w 43 3 43 48 i0 zeroF .i64 .i64 Tryz.underlying43 Tryz.underlying3 hi0 hz0 n h0 (by rw [hz1]; decide) (by omega) (by rw [hz2]; omega)
    have hge := grownCap_ge w n 0 48
    have hcm := grownCap_le_maxLen w n 0 48 (by unfold maxLen; omega)
    generalize grownCap w n 0 48 = cap at hg hge hcm
    have HOWN := Lib.hid (World.ownsRow_made (base := w.heap.size) (e := 48) (size := 4) w.drew (Builtin.zeroCells zeroF.cells n ++ Builtin.zeroCells zeroF.cells (cap - n)) cap (Nat.le_refl _) hcm (by
      rw [Array.size_append, size_zeroCells, size_zeroCells, show zeroF.cells.size = 4 from rfl, ← Nat.add_mul]
      congr 1
      omega))
    have HBB := Lib.hid ((Below.drew HB0.out).alloc (w := w.drew) (Nat.le_refl _) (.cells (Builtin.zeroCells zeroF.cells n ++ Builtin.zeroCells zeroF.cells (cap - n)) 48))
    generalize Builtin.zeroCells zeroF.cells n ++ Builtin.zeroCells zeroF.cells (cap - n) = cur at hg HOWN HBB
    clear h0 hz0 hz1 hz2 hi0 hcm
    go_enter Tryz.func240, Tryz.ntmps240
    go_wp2_with (at_builtin; refine Lib.wpList_append_run _ rfl _ _ _ _ rfl _ _ rfl rfl _ _ hg ?_)
    go_ret
    exact ⟨_, rfl, HOWN.out, HBB.out⟩
  · obtain rfl : n = 0 := by omega
    go_enter Tryz.func240, Tryz.ntmps240
    go_wp2_with fail
    go_ret
    exact ⟨_, rfl, World.ownsRow_nil _ _ _ _, HB0.out⟩

theorem PRowF.of {W : World} {base n : Nat} {v : Value} {f : Nat → List Value} (hl : ∀ i, i < n → (f i).length = 4) (h : W.ownsRow base 48 4 v n (flat f n)) : PRowF base W v n f := by
  have hlt := h.lt
  have hc := fun g (hg : v.ownBlock = some g) => h.cells hg
  rcases h.2 with ⟨rfl, h0⟩ | ⟨g, cap, cur, rfl, hb, hg, hnc, _⟩
  · exact ⟨none, 0, by rw [h0], by omega, fun i hi => by omega⟩
  · refine ⟨_, _, rfl, hnc, fun i hi => ⟨g, i * 4, fun w => ?_, hb, (hlt g rfl).2, fun j u hu => ?_⟩⟩
    · rw [run_indexAt_slice (h := by rw [show Tryz.prog.elem 43 = 48 from by kernel_rfl]; exact Tryz.underlying43), if_pos (by omega), show Tryz.prog.elem 43 = 48 from by kernel_rfl, Tryz.sizeOf48]
      simp [Result.andThen, Addr.add_mid]
    · have hj : j < 4 := by rw [← hl i hi]; exact (List.getElem?_eq_some_iff.1 hu).1
      have := hc g rfl (i * 4 + j) u (by rw [flat_at hl hi hj]; exact hu)
      rw [Addr.add_mid, Nat.zero_add] at this
      exact this
theorem row_newsF {B : Nat} {W : World} {a : Option Addr} {n cap : Nat} {f : Nat → List Value} (h : RowAt B W a n cap 4 f) (hl : ∀ i, i < n → (f i).length = 4) :
    (a = none ∧ n = 0 ∧ cap = 0) ∨ ∃ ad, a = some ad ∧ ∀ W' : World, Below B W W' → ∀ j u, (flat f n)[j]? = some u → W'.cell? (ad.add j) = some u := by
  rcases Nat.eq_zero_or_pos n with h0 | h0
  · cases a with
    | none => exact .inl ⟨rfl, (h.2.2.1 rfl).1, (h.2.2.1 rfl).2⟩
    | some ad => exact .inr ⟨ad, rfl, fun W' _ j u hu => by rw [h0] at hu; cases hu⟩
  · obtain ⟨g, o, rfl, hg, hc⟩ := h.2.2.2 h0
    refine .inr ⟨_, rfl, fun W' hb j u hu => ?_⟩
    obtain ⟨i, r, hi, hr, rfl, hu2⟩ := flat_get (by decide) hl hu
    rw [Addr.add_mid, ← Nat.add_assoc]
    exact (hb.cell (p := ⟨g, o + i * 4 + r, none⟩) hg).trans (hc i hi r u hu2)
def RelC2F (F1 F2 : List Value) (pn an : Nat) (w : World) (vv iv : Value) (wr : World) : Prop := ∃ k : Nat, k ≤ 2 ∧ iv = .int .i64 (k : Nat) ∧ wr.ownsRow w.heap.size 48 4 vv (cnt2 pn an k) (flat2 F1 F2 k) ∧ Below w.heap.size w wr
set_option maxHeartbeats 8000000 in
theorem concatF_ok (w : World) (B g0 : Nat) (pa : Option Addr) (pn pc : Nat) (f : Nat → List Value) (aa : Option Addr) (an ac : Nat) (g : Nat → List Value) (hB : B ≤ w.heap.size) (hg0 : g0 < w.heap.size)
    (hc0 : w.cell? ⟨g0, 0, none⟩ = some (.slice pa pn pc)) (hc1 : w.cell? ⟨g0, 1, none⟩ = some (.slice aa an ac)) (hp : RowAt B w pa pn pc 4 f) (ha : RowAt B w aa an ac 4 g)
    (hlf : ∀ i, i < pn → (f i).length = 4) (hlg : ∀ i, i < an → (g i).length = 4) (hof : ∀ i, i < pn → ∀ u ∈ f i, u.oneCell' = true) (hog : ∀ i, i < an → ∀ u ∈ g i, u.oneCell' = true) (hpn : pn ≤ 10000) (han : an ≤ 10000) :
    Calls Tryz.prog 202 #[.slice (some ⟨g0, 0, none⟩) 2 2] w fun e w' => ∃ v, e = .returned v ∧ PRowF w.heap.size w' v (pn + an) (fun i => if i < pn then f i else g (i - pn)) ∧ Below w.heap.size w w' := by
  obtain ⟨i0, hi0, hz0, hz1, hz2⟩ := info_parts info_PzF
  have HN1 := Lib.hid (row_newsF hp hlf)
  have HN2 := Lib.hid (row_newsF ha hlg)
  have HL1 := Lib.hid (flat_len hlf)
  have HL2 := Lib.hid (flat_len hlg)
  have HO1 := Lib.hid (flat_one hof)
  have HO2 := Lib.hid (flat_one hog)
  have HBB := Lib.hid hB
  have HFIN := Lib.hid (show ∀ (W : World) (v : Value), W.ownsRow w.heap.size 48 4 v (pn + an) (flat f pn ++ flat g an) → PRowF w.heap.size W v (pn + an) (fun i => if i < pn then f i else g (i - pn)) from fun W v h => by
    rw [flat_add] at h
    refine PRowF.of (fun i hi => ?_) h
    split
    · exact hlf i (by assumption)
    · exact hlg _ (by omega))
  have HC := Lib.hid (fun (W : World) (hb : Below w.heap.size w W) => And.intro ((hb.cell (p := ⟨g0, 0, none⟩) hg0).trans hc0) ((hb.cell (p := ⟨g0, 1, none⟩) hg0).trans hc1))
  have HB0 := Lib.hid (Below.refl w.heap.size w)
  clear hp ha hlf hlg hof hog hB
  generalize flat f pn = F1 at *
  generalize flat g an = F2 at *
  have e0 : cnt2 pn an 0 = 0 := rfl
  have e1 : cnt2 pn an 1 = pn := rfl
  have e2 : cnt2 pn an 2 = pn + an := rfl
  go_enter Tryz.func202, Tryz.ntmps202
  go_wp2_with fail
  go_loopw [3, 11] (fun sv iv wr => RelC1 pn an w sv iv wr) (fun _ iv _ => 2 - (Lib.intOf iv).toNat)
  case atStart => exact ⟨0, by omega, rfl, rfl, rfl⟩
  case round =>
    obtain ⟨k, hk, rfl, rfl, hwr⟩ := hrel
    obtain rfl : w = wr := hwr.symm
    rcases (by omega : k = 0 ∨ k = 1 ∨ k = 2) with rfl | rfl | rfl
    · have q2 : IntKind.i64.wrap (0 + (pn : Int)) = (pn : Int) := by rw [Int.zero_add]; exact wrap_ok (by unfold I64; omega)
      have q3 : decide ((pn : Int) < 0) = false := decide_eq_false (by omega)
      rw [e0]
      go_wp2_with fail
      go_roundw
      case rel => exact ⟨1, by omega, rfl, rfl, rfl⟩
      case measure => decide
    · have q2 : IntKind.i64.wrap ((pn : Int) + (an : Int)) = ((pn + an : Nat) : Int) := (wrap_ok (by unfold I64; omega)).trans (by omega)
      have q3 : decide (((pn + an : Nat) : Int) < 0) = false := decide_eq_false (by omega)
      rw [e1]
      generalize pn + an = N at *
      go_wp2_with fail
      go_roundw
      case rel => exact ⟨2, by omega, rfl, by rw [e2], rfl⟩
      case measure => decide
    · rw [e2]
      have HG := Lib.hid (growPF_ok w (pn + an) (by omega))
      generalize pn + an = N at *
      go_wp2_with fail
      refine HG.out.mono ?_
      rintro e w1 ⟨v, rfl, hown, hb⟩
      have HOW := Lib.hid hown
      have HB1 := Lib.hid hb
      clear hown hb hc0 hc1
      go_wp2_with fail
      clear hg0
      go_loopw [6, 27] (fun vv iv wr => RelC2F F1 F2 pn an w vv iv wr) (fun _ iv _ => 2 - (Lib.intOf iv).toNat)
      case atStart => exact ⟨0, by omega, rfl, HOW.out, HB1.out⟩
      case round =>
      obtain ⟨k, hk, rfl, hown2, hb2⟩ := hrel
      have HB2 := Lib.hid hb2
      clear hb2
      rcases (by omega : k = 0 ∨ k = 1 ∨ k = 2) with rfl | rfl | rfl
      · have HOW3 := Lib.hid (show wr.ownsRow w.heap.size 48 4 _ 0 [] from hown2)
        have c0 := (HC.out _ HB2.out).1
        clear hown2
        rcases HN1.out with ⟨rfl, rfl, rfl⟩ | ⟨ad, rfl, hnews⟩
        · go_wp2_with (at_builtin; refine wpList_append_own_none rfl (.tmp 31) (.tmp 32) 43 rfl w.heap.size 48 i0 4 Tryz.underlying43 hi0 _ 0 [] rfl HOW3.out rfl ?_)
          go_roundw
          case rel => exact ⟨1, by omega, rfl, by have h := HOW3.out; have h1 := HL1.out; rw [Nat.zero_mul] at h1; obtain rfl := List.eq_nil_of_length_eq_zero h1; exact h, HB2.out⟩
          case measure => decide
        · have HNW := Lib.hid (hnews wr (HB2.out.mono HBB.out))
          clear hnews
          go_wp2_with (at_builtin; refine wpList_append_own _ rfl (.tmp 31) (.tmp 32) 43 rfl w.heap.size 48 i0 zeroF 4 56 Tryz.underlying43 hi0 hz0 hz1 hz2 rfl (by decide) _ 0 [] rfl HOW3.out ad pn pc F1 rfl HL1.out HNW.out HO1.out (by unfold maxLen; omega) (by omega) HB2.out.size ?_; intro v4 w4 ho4 hg4 _; have HO4 := Lib.hid ho4; have HG4 := Lib.hid hg4; clear ho4 hg4)
          go_roundw
          case rel => exact ⟨1, by omega, rfl, by have h := HO4.out; rw [Nat.zero_add] at h; exact h, HB2.out.grown HG4.out HB2.out.size (fun k hk => (HOW3.out.lt k hk).1)⟩
          case measure => decide
      · have HOW3 := Lib.hid (show wr.ownsRow w.heap.size 48 4 _ pn F1 from hown2)
        have c0 := (HC.out _ HB2.out).2
        clear hown2
        rcases HN2.out with ⟨rfl, rfl, rfl⟩ | ⟨ad, rfl, hnews⟩
        · go_wp2_with (at_builtin; refine wpList_append_own_none rfl (.tmp 31) (.tmp 32) 43 rfl w.heap.size 48 i0 4 Tryz.underlying43 hi0 _ pn F1 rfl HOW3.out rfl ?_)
          go_roundw
          case rel => exact ⟨2, by omega, rfl, by have h := HOW3.out; have h1 := HL2.out; rw [Nat.zero_mul] at h1; obtain rfl := List.eq_nil_of_length_eq_zero h1; show World.ownsRow _ _ _ _ _ (cnt2 pn 0 2) (F1 ++ []); rw [List.append_nil]; exact h, HB2.out⟩
          case measure => decide
        · have HNW := Lib.hid (hnews wr (HB2.out.mono HBB.out))
          clear hnews
          go_wp2_with (at_builtin; refine wpList_append_own _ rfl (.tmp 31) (.tmp 32) 43 rfl w.heap.size 48 i0 zeroF 4 56 Tryz.underlying43 hi0 hz0 hz1 hz2 rfl (by decide) _ pn F1 rfl HOW3.out ad an ac F2 rfl HL2.out HNW.out HO2.out (by unfold maxLen; omega) (by omega) HB2.out.size ?_; intro v4 w4 ho4 hg4 _; have HO4 := Lib.hid ho4; have HG4 := Lib.hid hg4; clear ho4 hg4)
          go_roundw
          case rel => exact ⟨2, by omega, rfl, HO4.out, HB2.out.grown HG4.out HB2.out.size (fun k hk => (HOW3.out.lt k hk).1)⟩
          case measure => decide
      · have hown3 := hown2
        rw [e2] at hown3
        have HP := Lib.hid (HFIN.out _ _ hown3)
        clear hown2 hown3
        go_wp2_with fail
        go_ret
        refine ⟨_, rfl, ?_, HB2.out⟩
        rw [show pn + an = N from e2]
        exact HP.out
end Go.Proofs.YtjhecpkdpomkmaaGreat
