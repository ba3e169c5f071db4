/-
  A bundle of texts, one behind the other: BdA, BdI, BdE, BdB, BdB2, BdB3, BdB4.
-/
import Derived.Test.YtmaghmdcagdkhaaGreatQE
import Derived.Test.YtmaghmdcagdkhaaGreatQA
import Derived.Deep.AppendLies
import Derived.Laws.AppendOwnNone
/-
  Package spans: Meet, Minus and Whole give rows of the caller's own.
-/
namespace Go.Proofs.YtmaghmdcagdkhaaGreat
open Go.RowKit Go.Shelf
set_option linter.unusedVariables false
set_option linter.unusedSimpArgs false
set_option maxRecDepth 100000

def AnsO (base : Nat) (w : World) (v : Value) (p : Int → Prop) (K : Nat) (r : List Rg) : Prop := OwnR base w v r ∧ Says r p ∧ r.length ≤ K
theorem AnsO.ans {base : Nat} {w : World} {v : Value} {p : Int → Prop} {K : Nat} {r : List Rg} (h : AnsO base w v p K r) : Ans w v p K r := ⟨h.1.rsl h.2.1.2.1, h.2⟩
theorem own_lit (w : World) (l : List Rg) (hl : l.length ≤ 1000) (cs : Array Value) (hc : (rcells l).toArray = cs) (n : Nat) (hn : n = l.length) : OwnR w.heap.size (w.alloc (.cells cs 82)) (.slice (some ⟨w.heap.size, 0, none⟩) n n) l := by
  subst hc
  subst hn
  exact ⟨rcells_length l, .inr ⟨w.heap.size, l.length, _, rfl, Nat.le_refl _, heap_alloc_new w _, Nat.le_refl _, by unfold maxLen; omega, by simp [rcells_length], by simp [← rcells_length]⟩⟩
/-- 'common' of two answers: a row of one's own -/
theorem common_own (w : World) (va vb : Value) (a b : List Rg) (p q : Int → Prop) (K L : Nat) (ha : Ans w va p K a) (hb : Ans w vb q L b) (hK : K + L ≤ 1000000) :
    Calls Tryz.prog 126 #[va, vb] w fun e w' => ∃ v' r, e = .returned v' ∧ AnsO w.heap.size w' v' (fun n => p n ∧ q n) (K + L) r ∧ Below w.heap.size w w' := by
  obtain ⟨ha1, ha2, ha3⟩ := ha
  obtain ⟨hb1, hb2, hb3⟩ := hb
  obtain ⟨sa, ca, rfl⟩ := ha1.shape
  obtain ⟨sb, cb, rfl⟩ := hb1.shape
  obtain ⟨h1, h2⟩ := common_says ha2 hb2
  refine (common_ok w sa sb a.length b.length ca cb a b ha1 hb1 rfl rfl (by omega)).mono ?_
  rintro e w' ⟨v, rfl, h3, h4⟩
  exact ⟨v, _, rfl, ⟨h3, h1, by omega⟩, h4⟩
set_option maxHeartbeats 1000000 in
theorem Meet_own (w : World) (va vb : Value) (a b : List Rg) (ha : RSl w va a) (hb : RSl w vb b) (hla : a.length ≤ 100000) (hlb : b.length ≤ 100000) :
    Calls Tryz.prog 117 #[va, vb] w fun e w' => ∃ v' r, e = .returned v' ∧ AnsO w.heap.size w' v' (fun n => mem a n ∧ mem b n) (a.length + b.length) r ∧ Below w.heap.size w w' := by
  obtain ⟨sa, ca, rfl⟩ := ha.shape
  obtain ⟨sb, cb, rfl⟩ := hb.shape
  have HB := Lib.hid hb
  have HC := Lib.hid (norm_one w _ a ha hla)
  have HK := Lib.hid (show a.length + b.length ≤ 1000000 by omega)
  have HLB := Lib.hid hlb
  clear ha hb hla hlb
  go_enter Tryz.func117, Tryz.ntmps117
  go_wp2_with fail
  refine HC.out.mono ?_
  rintro e w1 ⟨v1, r1, rfl, h1, hb1⟩
  have HA1 := Lib.hid h1
  have HB1 := Lib.hid hb1
  have HC2 := Lib.hid (norm_one w1 _ b (HB.out.below hb1) HLB.out)
  clear h1 hb1 HC HB
  go_wp2_with fail
  refine HC2.out.mono ?_
  rintro e w2 ⟨v2, r2, rfl, h1, hb1⟩
  have HB2 := Lib.hid (HB1.out.trans (hb1.mono HB1.out.size))
  have HC3 := Lib.hid (common_own w2 v1 v2 r1 r2 _ _ _ _ (HA1.out.below hb1) h1 HK.out)
  clear h1 hb1 HC2 HA1 HB1
  go_wp2_with fail
  refine HC3.out.mono ?_
  rintro e w3 ⟨v3, r3, rfl, h1, hb1⟩
  have HA3 := Lib.hid (show AnsO w.heap.size w3 v3 (fun n => mem a n ∧ mem b n) (a.length + b.length) r3 from ⟨h1.1.base HB2.out.size, h1.2⟩)
  have HB3 := Lib.hid (HB2.out.trans (hb1.mono HB2.out.size))
  clear h1 hb1 HC3 HB2
  go_wp2_with fail
  go_ret
  exact ⟨_, r3, rfl, HA3.out, HB3.out⟩
set_option maxHeartbeats 1000000 in
theorem Minus_own (w : World) (va vb : Value) (a b : List Rg) (ha : RSl w va a) (hb : RSl w vb b) (hla : a.length ≤ 100000) (hlb : b.length ≤ 100000) :
    Calls Tryz.prog 130 #[va, vb] w fun e w' => ∃ v' r, e = .returned v' ∧ AnsO w.heap.size w' v' (fun n => mem a n ∧ ¬ mem b n) (a.length + (b.length + 1)) r ∧ Below w.heap.size w w' := by
  obtain ⟨sa, ca, rfl⟩ := ha.shape
  obtain ⟨sb, cb, rfl⟩ := hb.shape
  have HB := Lib.hid hb
  have HC := Lib.hid (norm_one w _ a ha hla)
  have HK := Lib.hid (show a.length + (b.length + 1) ≤ 1000000 ∧ b.length ≤ 1000000 by omega)
  have HLB := Lib.hid hlb
  clear ha hb hla hlb
  go_enter Tryz.func130, Tryz.ntmps130
  go_wp2_with fail
  refine HC.out.mono ?_
  rintro e w1 ⟨v1, r1, rfl, h1, hb1⟩
  have HA1 := Lib.hid h1
  have HB1 := Lib.hid hb1
  have HC2 := Lib.hid (norm_one w1 _ b (HB.out.below hb1) HLB.out)
  clear h1 hb1 HC HB
  go_wp2_with fail
  refine HC2.out.mono ?_
  rintro e w2 ⟨v2, r2, rfl, h1, hb1⟩
  have HB2 := Lib.hid (HB1.out.trans (hb1.mono HB1.out.size))
  have HA2 := Lib.hid (HA1.out.below hb1)
  have HC3 := Lib.hid (others_ans w2 v2 r2 _ _ h1 HK.out.2)
  clear h1 hb1 HC2 HA1 HB1
  go_wp2_with fail
  refine HC3.out.mono ?_
  rintro e w3 ⟨v3, r3, rfl, h1, hb1⟩
  have HB3 := Lib.hid (HB2.out.trans (hb1.mono HB2.out.size))
  have HC4 := Lib.hid (common_own w3 v1 v3 r1 r3 _ _ _ _ (HA2.out.below hb1) h1 HK.out.1)
  clear h1 hb1 HC3 HA2 HB2
  go_wp2_with fail
  refine HC4.out.mono ?_
  rintro e w4 ⟨v4, r4, rfl, h1, hb1⟩
  have HA4 := Lib.hid (show AnsO w.heap.size w4 v4 (fun n => mem a n ∧ ¬ mem b n) (a.length + (b.length + 1)) r4 from ⟨h1.1.base HB3.out.size, h1.2⟩)
  have HB4 := Lib.hid (HB3.out.trans (hb1.mono HB3.out.size))
  clear h1 hb1 HC4 HB3
  go_wp2_with fail
  go_ret
  exact ⟨_, r4, rfl, HA4.out, HB4.out⟩
set_option maxHeartbeats 1000000 in
theorem Whole_own (w : World) : Calls Tryz.prog 102 #[] w fun e w' => ∃ v', e = .returned v' ∧ OwnR w.heap.size w' v' wholeL ∧ Below w.heap.size w w' := by
  have HR := Lib.hid (own_lit w wholeL (by simp [wholeL]) #[.int .i64 (-9223372036854775808), .int .i64 9223372036854775807] rfl 1 rfl)
  have HB := Lib.hid ((Below.refl w.heap.size w).alloc (Nat.le_refl _) (.cells #[.int .i64 (-9223372036854775808), .int .i64 9223372036854775807] 82))
  go_enter Tryz.func102, Tryz.ntmps102
  go_wp2_with fail
  go_ret
  exact ⟨_, rfl, HR.out, HB.out⟩
end Go.Proofs.YtmaghmdcagdkhaaGreat

/-
  Whether a constraint lets a number in, as the document asks it: 'in', 'In'.
-/
namespace Go.Proofs.YtmaghmdcagdkhaaGreat
open Go.RowKit
set_option linter.unusedVariables false
set_option linter.unusedSimpArgs false
set_option maxRecDepth 100000

theorem CIn.open {B : Nat} {W : World} {c : CT} (h : CIn B W c) : ∃ op lo hi low high a n cap ch, c = .mk op lo hi low high a n cap ch := by
  cases c with
  | nil => exact h.elim
  | mk op lo hi low high a n cap ch => exact ⟨_, _, _, _, _, _, _, _, _, rfl⟩
def RelIn (w : World) (n g : Nat) (cs : Array Value) (p : Nat → Bool) (iv : Value) (wr : World) : Prop :=
  ∃ i : Nat, i ≤ n ∧ iv = .int .i64 (i : Nat) ∧ (∀ j, j < i → p j = true) ∧ Bx wr g cs 89 ∧ Below w.heap.size w wr
theorem relIn_next {p : Nat → Bool} {i : Nat} (h : ∀ j, j < i → p j = true) (hi : p i = true) : ∀ j, j < i + 1 → p j = true := fun j hj => by
  rcases Nat.lt_or_ge j i with h2 | h2
  · exact h j h2
  · obtain rfl : j = i := by omega
    exact hi
end Go.Proofs.YtmaghmdcagdkhaaGreat

/-
  The document's cuts: 'ends': the numbers at which a constraint may begin to let in others.
-/
namespace Go.Proofs.YtmaghmdcagdkhaaGreat
open Go.RowKit Go.Shelf
set_option linter.unusedVariables false
set_option linter.unusedSimpArgs false
set_option maxRecDepth 100000

def flatN (f : Nat → List Int) : Nat → List Int
  | 0 => []
  | n + 1 => flatN f n ++ f n
theorem flatN_len {f : Nat → List Int} {s : Nat → Nat} : ∀ {n : Nat}, (∀ i, i < n → (f i).length ≤ 2 * s i) → (flatN f n).length ≤ 2 * sumN s n
  | 0, _ => by simp [flatN]
  | n + 1, h => by
    simp only [flatN, sumN, List.length_append]
    have h1 : (flatN f n).length ≤ 2 * sumN s n := flatN_len (n := n) (fun i hi => h i (by omega))
    have h2 := h n (by omega)
    omega
theorem flatN_mem {f : Nat → List Int} {x : Int} : ∀ {n : Nat}, x ∈ flatN f n ↔ ∃ i, i < n ∧ x ∈ f i
  | 0 => by simp [flatN]
  | n + 1 => by
    simp only [flatN, List.mem_append, flatN_mem (n := n)]
    constructor
    · rintro (⟨i, hi, h⟩ | h)
      · exact ⟨i, by omega, h⟩
      · exact ⟨n, by omega, h⟩
    · rintro ⟨i, hi, h⟩
      rcases Nat.lt_or_ge i n with h1 | h1
      · exact .inl ⟨i, h1, h⟩
      · obtain rfl : i = n := by omega
        exact .inr h
/-- the ends of one range -/
def cutP (op lo hi : Int) (low high : Bool) : List Int := (if op = 1 ∧ low = false then [lo] else []) ++ (if op = 1 ∧ high = false ∧ hi < 9223372036854775807 then [hi + 1] else [])
def cutsC : CT → Nat → List Int
  | .nil, _ => []
  | .mk op lo hi low high _ n _ ch, k => cutP op lo hi low high ++ (match k with
    | 0 => []
    | k + 1 => flatN (fun i => cutsC (ch i) k) n)
theorem cutP_len (op lo hi : Int) (low high : Bool) : (cutP op lo hi low high).length ≤ 2 := by
  unfold cutP
  split <;> split <;> simp
theorem cutsC_len : ∀ (c : CT) (k : Nat), (cutsC c k).length ≤ 2 * c.sz
  | .nil, _ => by simp [cutsC]
  | .mk op lo hi low high a n cap ch, k => by
    have h1 := cutP_len op lo hi low high
    rw [CT.sz_mk]
    cases k with
    | zero =>
      simp only [cutsC, List.append_nil]
      omega
    | succ k =>
      have h2 := flatN_len (f := fun i => cutsC (ch i) k) (s := fun i => (ch i).sz) (n := n) (fun i _ => cutsC_len (ch i) k)
      simp only [cutsC, List.length_append]
      omega
def dup (x : Int) : Rg := (x, x)
/-! ### what an append leaves -/
structure Grow (w w' : World) (v v' : Value) : Prop where
  grown : w.grownBy w' v.ownBlock
  at_ : ∀ k, v'.ownBlock = some k → v.ownBlock = some k ∨ w.heap.size ≤ k
theorem Grow.refl (w : World) (v : Value) : Grow w w v v := ⟨⟨rfl, rfl, rfl, Nat.le_refl _, fun _ _ _ => rfl⟩, fun k h => .inl h⟩
theorem Grow.trans {w1 w2 w3 : World} {v1 v2 v3 : Value} (h : Grow w1 w2 v1 v2) (j : Grow w2 w3 v2 v3) : Grow w1 w3 v1 v3 := by
  refine ⟨⟨j.grown.os.trans h.grown.os, j.grown.tape.trans h.grown.tape, j.grown.output.trans h.grown.output, Nat.le_trans h.grown.size j.grown.size, fun k hk hne => ?_⟩, fun k hk => ?_⟩
  · refine (j.grown.block k (Nat.lt_of_lt_of_le hk h.grown.size) (fun e => ?_)).trans (h.grown.block k hk hne)
    rcases h.at_ k e.symm with e2 | e2
    · exact hne e2.symm
    · omega
  · rcases j.at_ k hk with e | e
    · exact h.at_ k e
    · exact .inr (Nat.le_trans h.grown.size e)
theorem Grow.below {w w' : World} {v v' : Value} {base : Nat} {l : List Rg} (h : Grow w w' v v') (ho : OwnR base w v l) (hb : base ≤ w.heap.size) : Below base w w' :=
  (Below.refl base w).grown h.grown hb (fun k hk => (ho.lt k hk).1)
def REn (base : Nat) (w : World) (v0 : Value) (l : List Rg) (g : Nat) (cs : Array Value) (L : List Int) (v1 : Value) (wr : World) : Prop :=
  OwnR base wr v1 (l ++ L.map dup) ∧ Bx wr g cs 89 ∧ Grow w wr v0 v1 ∧ ∀ k, v1.ownBlock = some k → k ≠ g
theorem REn.push {base : Nat} {w : World} {v0 : Value} {l : List Rg} {g : Nat} {cs : Array Value} {L : List Int} {v1 : Value} {wr w4 : World} {o : Obj} {x : Int} {g' cap H : Nat} {xs : List Value} {n : Nat} (h : REn base w v0 l g cs L v1 wr)
    (hown : w4.ownsRow base 82 2 (.slice (some ⟨g', 0, none⟩) (n + 1) cap) (n + 1) (xs ++ [.int .i64 x, .int .i64 x])) (hn : n = (l ++ L.map dup).length) (hxs : xs = rcells (l ++ L.map dup))
    (hgr : (wr.alloc o).grownBy w4 v1.ownBlock) (hat : v1.ownBlock = some g' ∨ g' = H) (hH : (wr.alloc o).heap.size = H) : REn base w v0 l g cs (L ++ [x]) (.slice (some ⟨g', 0, none⟩) (n + 1) cap) w4 := by
  subst hn
  subst hxs
  subst hH
  obtain ⟨h1, h2, h3, h4⟩ := h
  have hs : (wr.alloc o).heap.size = wr.heap.size + 1 := by simp
  have hlt := h2.lt
  refine ⟨?_, ?_, h3.trans ⟨⟨hgr.os, hgr.tape, hgr.output, by have := hgr.size; omega, fun k hk hne => (hgr.block k (by omega) hne).trans (Below.heap_alloc wr o k hk)⟩, fun k hk => ?_⟩, fun k hk => ?_⟩
  · rw [List.map_append, ← List.append_assoc]
    exact own_snoc hown
  · have hg2 := hgr.block g (by omega) (fun e => h4 g e.symm rfl)
    exact hg2.trans ((Below.heap_alloc wr o g hlt).trans h2)
  · obtain rfl : g' = k := by simpa [Value.ownBlock] using hk
    rcases hat with e | e
    · exact .inl e
    · exact .inr (by omega)
  · obtain rfl : g' = k := by simpa [Value.ownBlock] using hk
    rcases hat with e | e
    · exact h4 _ e
    · omega
theorem REn.call {base : Nat} {w : World} {v0 : Value} {l : List Rg} {g : Nat} {cs : Array Value} {L M : List Int} {v1 v' : Value} {wr w1 : World} (h : REn base w v0 l g cs L v1 wr)
    (hown : OwnR base w1 v' ((l ++ L.map dup) ++ M.map dup)) (hg : Grow wr w1 v1 v') : REn base w v0 l g cs (L ++ M) v' w1 := by
  obtain ⟨h1, h2, h3, h4⟩ := h
  have hlt := h2.lt
  refine ⟨?_, (hg.grown.block g hlt (fun e => h4 g e.symm rfl)).trans h2, h3.trans hg, fun k hk => ?_⟩
  · rw [List.map_append, ← List.append_assoc]
    exact hown
  · rcases hg.at_ k hk with e | e
    · exact h4 k e
    · omega
end Go.Proofs.YtmaghmdcagdkhaaGreat

/-
  Package bounds: what several constraints let in together: 'combined', 'byOne', 'byAll', over whatever 'admitted' tells of each.
-/
namespace Go.Proofs.YtmaghmdcagdkhaaGreat
open Go.RowKit Go.Shelf
set_option linter.unusedVariables false
set_option linter.unusedSimpArgs false
set_option maxRecDepth 100000

/-- a row of one's own that tells the numbers for which p holds, in whatever order -/
def OwnA (base : Nat) (w : World) (v : Value) (p : Int → Prop) (K : Nat) (r : List Rg) : Prop := OwnR base w v r ∧ Bd r ∧ (∀ n, I64 n → (mem r n ↔ p n)) ∧ r.length ≤ K
theorem AnsO.ownA {base : Nat} {w : World} {v : Value} {p : Int → Prop} {K : Nat} {r : List Rg} (h : AnsO base w v p K r) : OwnA base w v p K r := ⟨h.1, h.2.1.2.1, h.2.1.2.2, h.2.2⟩
theorem OwnA.rsl {base : Nat} {w : World} {v : Value} {p : Int → Prop} {K : Nat} {r : List Rg} (h : OwnA base w v p K r) : RSl w v r := h.1.rsl h.2.1
theorem OwnA.cast {base : Nat} {w : World} {v : Value} {p q : Int → Prop} {K L : Nat} {r : List Rg} (h : OwnA base w v p K r) (hpq : ∀ n, I64 n → (p n ↔ q n)) (hK : K ≤ L) : OwnA base w v q L r := ⟨h.1, h.2.1, fun n hn => (h.2.2.1 n hn).trans (hpq n hn), Nat.le_trans h.2.2.2 hK⟩
theorem OwnA.below {base : Nat} {w w' : World} {v : Value} {p : Int → Prop} {K : Nat} {r : List Rg} (h : OwnA base w v p K r) (hb : Below w.heap.size w w') : OwnA base w' v p K r := ⟨h.1.below hb, h.2⟩
theorem OwnA.base {base b2 : Nat} {w : World} {v : Value} {p : Int → Prop} {K : Nat} {r : List Rg} (h : OwnA base w v p K r) (hb : b2 ≤ base) : OwnA b2 w v p K r := ⟨h.1.base hb, h.2⟩
theorem OwnR.shape {base : Nat} {w : World} {v : Value} {l : List Rg} (h : OwnR base w v l) : ∃ a n c, v = .slice a n c := by
  rcases h.2 with ⟨rfl, _⟩ | ⟨g, cap, cur, rfl, _⟩
  · exact ⟨_, _, _, rfl⟩
  · exact ⟨_, _, _, rfl⟩
/-- an operation on two sets: what is in one, or in both -/
def OpOK (u : Bool) (fn : FuncId) : Prop := ∀ (base : Nat) (w : World) (va vb : Value) (a b : List Rg), base ≤ w.heap.size → OwnR base w va a → OwnR base w vb b → Bd a → Bd b → a.length ≤ 1000 → b.length ≤ 1000 →
  Calls Tryz.prog fn #[va, vb] w fun e w' => ∃ v r, e = .returned v ∧ OwnA base w' v (fun x => comb u (mem a x) (mem b x)) (a.length + b.length) r ∧ Below base w w'
set_option maxHeartbeats 1000000 in
theorem meet_op : OpOK false 117 := by
  intro base w va vb a b hbase ha hb hba hbb hla hlb
  refine (Meet_own w va vb a b (ha.rsl hba) (hb.rsl hbb) (by omega) (by omega)).mono ?_
  rintro e w' ⟨v, r, rfl, h, hbel⟩
  exact ⟨v, r, rfl, ((h.ownA.base hbase).cast (fun n _ => by simp [comb]) (Nat.le_refl _)), hbel.mono hbase⟩
set_option maxHeartbeats 2000000 in
theorem append_op : OpOK true 159 := by
  intro base w va vb a b hbase ha hb hba hbb hla hlb
  obtain ⟨i0, hi0, hz0, hz1, hz2⟩ := info_parts info_rg
  have HFIN := Lib.hid (show ∀ (w2 : World) (v2 : Value), OwnR base w2 v2 (a ++ b) → OwnA base w2 v2 (fun x => comb true (mem a x) (mem b x)) (a.length + b.length) (a ++ b) from fun w2 v2 h => ⟨h, Bd.append.2 ⟨hba, hbb⟩, fun n _ => by rw [mem_append]; simp [comb], by simp⟩)
  obtain ⟨sa, na, ca, rfl⟩ := ha.shape
  have HA := Lib.hid ha
  have hlen := rcells_length b
  have hone := rcells_oneCell b
  have HHA := Lib.hid (show w.ownsRow base 82 2 (.slice sa na ca) a.length (rcells a) from ha)
  have hb' : w.ownsRow base 82 2 vb b.length (rcells b) := hb
  rcases hb.2 with ⟨rfl, h0⟩ | ⟨g, cap, cur, rfl, hg, hh, hrest⟩
  · obtain rfl : b = [] := List.length_eq_zero_iff.1 h0
    have HF := Lib.hid (HFIN.out w (.slice sa na ca) (by rw [List.append_nil]; exact ha))
    clear ha hb hba hbb hlen hone hb' HFIN
    go_enter Tryz.func159, Tryz.ntmps159
    go_wp2_with (at_builtin; refine wpList_append_own_none rfl (.tmp 5) (.tmp 6) 39 rfl base 82 i0 2 Tryz.underlying39 hi0 _ a.length (rcells a) rfl HHA.out rfl ?_)
    go_ret
    exact ⟨_, _, rfl, HF.out, Below.refl _ _⟩
  · have HCC := Lib.hid (hb'.cells (g := g) rfl)
    have hla2 : a.length + b.length ≤ 2000 := by omega
    clear ha hb hba hbb hb' hh hrest hg
    generalize hnb : b.length = nb at *
    have HNB := Lib.hid hnb
    clear hnb
    go_enter Tryz.func159, Tryz.ntmps159
    go_wp2_with (at_builtin; refine wpList_append_own _ rfl (.tmp 5) (.tmp 6) 39 rfl base 82 i0 rgZero 2 16 Tryz.underlying39 hi0 hz0 hz1 hz2 rfl (by decide) _ a.length (rcells a) rfl HHA.out ⟨g, 0, none⟩ nb cap (rcells b) rfl hlen HCC.out hone (by unfold maxLen; omega) (by omega) hbase ?_; intro v' w4 hown4 hgr4 _; have HO4 := Lib.hid hown4; have HG4 := Lib.hid hgr4; clear hown4 hgr4)
    go_ret
    refine ⟨_, _, rfl, HFIN.out _ _ ?_, ?_⟩
    · have h := HO4.out
      unfold OwnR
      rw [rcells_append, List.length_append, HNB.out]
      exact h
    · exact (Below.refl base w).grown HG4.out hbase (fun k hk => (HHA.out.lt k hk).1)
theorem enters_append : Enters Tryz.prog 159 := enters_of Tryz.func159 (by kernel_rfl) rfl
theorem enters_meet : Enters Tryz.prog 117 := enters_of Tryz.func117 (by kernel_rfl) rfl

/-! ### lists of constraints -/
def LIn (B : Nat) (W : World) (a : Option Addr) (n cap : Nat) (ch : Nat → CT) : Prop := RowAt B W a n cap 6 (fun i => (ch i).cells) ∧ ∀ i, i < n → CIn B W (ch i)
theorem LIn.below {B B' : Nat} {W W' : World} {a : Option Addr} {n cap : Nat} {ch : Nat → CT} (h : LIn B W a n cap ch) (hb : Below B' W W') (hB : B ≤ B') : LIn B' W' a n cap ch := ⟨h.1.below hb hB, fun i hi => (h.2 i hi).below hb hB⟩
theorem LIn.take {B : Nat} {W : World} {a : Option Addr} {n cap : Nat} {ch : Nat → CT} (h : LIn B W a n cap ch) {k : Nat} (hk : k ≤ n) : LIn B W a k cap ch :=
  ⟨⟨Nat.le_trans hk h.1.1, Nat.le_trans hk h.1.2.1, fun e => by have := h.1.2.2.1 e; exact ⟨by omega, this.2⟩, fun h0 => by
    obtain ⟨g, o, e, hg, hc⟩ := h.1.2.2.2 (by omega)
    exact ⟨g, o, e, hg, fun i hi => hc i (by omega)⟩⟩, fun i hi => h.2 i (by omega)⟩
/-- from element k on -/
theorem LIn.drop {B : Nat} {W : World} {g o : Nat} {n cap : Nat} {ch : Nat → CT} (h : LIn B W (some ⟨g, o, none⟩) n cap ch) {k : Nat} (hk : k ≤ n) (o2 : Nat) (ho : k < cap → o2 = o + k * 6) : LIn B W (some ⟨g, o2, none⟩) (n - k) (cap - k) (fun i => ch (k + i)) := by
  refine ⟨⟨by have := h.1.1; omega, by have := h.1.2.1; omega, (fun e => by cases e), (fun h0 => ?_)⟩, fun i hi => h.2 (k + i) (by omega)⟩
  obtain ⟨g', o', e, hg, hc⟩ := h.1.2.2.2 (by omega)
  simp only [Option.some.injEq, Addr.mk.injEq, and_true] at e
  obtain ⟨rfl, rfl⟩ := e
  obtain rfl := ho (by have := h.1.1; omega)
  refine ⟨g, _, rfl, hg, fun i hi j u hj => ?_⟩
  have := hc (k + i) (by omega) j u hj
  rw [show o + k * 6 + i * 6 + j = o + (k + i) * 6 + j by rw [Nat.add_mul]; omega]
  exact this
/-- what 'admitted' answers -/
def AdmOK (c : CT) (k : Nat) : Prop := ∀ (B : Nat) (w : World), CIn B w c → B ≤ w.heap.size →
  Calls Tryz.prog 118 #[c.v, .int .i64 (k : Nat)] w fun e w' => ∃ v r, e = .returned v ∧ OwnA w.heap.size w' v (fun x => adm c k x = true) (2 * c.sz) r ∧ Below w.heap.size w w'
set_option maxHeartbeats 4000000 in
theorem combined_one (fn : FuncId) (k : Nat) (B : Nat) (w : World) (a : Option Addr) (cap : Nat) (ch : Nat → CT) (vs : Option Addr) (vn vc : Nat) (h : LIn B w a 1 cap ch) (hB : B ≤ w.heap.size) (hadm : AdmOK (ch 0) k) :
    Calls Tryz.prog 158 #[.slice a 1 cap, .int .i64 (k : Nat), .slice vs vn vc, .func (.func fn) #[] #[]] w fun e w' => ∃ v r, e = .returned v ∧ OwnA w.heap.size w' v (fun x => adm (ch 0) k x = true) (2 * (ch 0).sz) r ∧ Below w.heap.size w w' := by
  have HC := Lib.hid (hadm B w (h.2 0 (by omega)) hB)
  obtain ⟨gx, ox, op', lo', hi', low', high', a', n', cap', ch', hchi, hix, hgx, hrd⟩ := cRow_read h.1 (i := 0) (by omega) (h.2 0 (by omega))
  obtain ⟨k0, k1, k2, k3, k4, k5⟩ := hrd w rfl
  have hix0 : ∀ w, (Instr.indexAt 87 (.slice a 1 cap) (.int .i64 0)).run Tryz.prog w = .ok (.pointer (some ⟨gx, ox, none⟩)) w := hix
  generalize hp : (fun x => adm (ch 0) k x = true) = p at *
  generalize hK : 2 * (ch 0).sz = K at *
  rw [hchi] at HC
  simp only [CT.v, CT.cells] at HC
  clear h hB hadm hchi hrd hix hp hK
  go_enter Tryz.func158, Tryz.ntmps158
  go_wp2_with fail
  refine HC.out.mono ?_
  rintro e w1 ⟨v, r, rfl, h1, h2⟩
  have HA := Lib.hid h1
  have HB := Lib.hid h2
  obtain ⟨sa, na, ca, rfl⟩ := h1.1.shape
  clear h1 h2
  go_wp2_with fail
  go_ret
  exact ⟨_, r, rfl, HA.out, HB.out⟩
end Go.Proofs.YtmaghmdcagdkhaaGreat

/-
  Package bounds: 'combined' over several constraints, by halves.
-/
namespace Go.Proofs.YtmaghmdcagdkhaaGreat
open Go.RowKit Go.Shelf
set_option linter.unusedVariables false
set_option linter.unusedSimpArgs false
set_option maxRecDepth 100000

theorem con_elem : Tryz.prog.elem 87 = 89 := by kernel_rfl
theorem con_under : Tryz.prog.underlying 87 = some (.slice (Tryz.prog.elem 87)) := by rw [con_elem]; exact Tryz.underlying87
theorem conSlice_h (g o n cap h : Nat) (hc : h ≤ cap) (w : World) : (Instr.slice 87 (.slice (some ⟨g, o, none⟩) n cap) none (some (.int .i64 (h : Nat))) none).run Tryz.prog w = .ok (.slice (some ⟨g, o, none⟩) h cap) w := by
  rw [run_slice_h (ht := con_under) (h0 := by omega) (h2 := by omega), con_elem, Tryz.sizeOf89]
  simp [Result.andThen, sliced, Addr.add_mid]
theorem conSlice_l (g o n cap h m cm : Nat) (hn : h ≤ n) (hc : ¬ cap = h) (hm : n - h = m) (hcm : cap - h = cm) (w : World) : (Instr.slice 87 (.slice (some ⟨g, o, none⟩) n cap) (some (.int .i64 (h : Nat))) none none).run Tryz.prog w = .ok (.slice (some ⟨g, o + h * 6, none⟩) m cm) w := by
  subst hm
  subst hcm
  rw [run_slice_l (ht := con_under) (h0 := by omega) (h1 := by omega), con_elem, Tryz.sizeOf89]
  simp [Result.andThen, sliced, Addr.add_mid, hc]
def CombOK (u : Bool) (fn : FuncId) (k : Nat) (vs : Option Addr) (vn vc : Nat) (a : Option Addr) (n cap : Nat) (ch : Nat → CT) (w : World) : Prop :=
  Calls Tryz.prog 158 #[.slice a n cap, .int .i64 (k : Nat), .slice vs vn vc, .func (.func fn) #[] #[]] w fun e w' => ∃ v r, e = .returned v ∧ OwnA w.heap.size w' v (fun x => foldU u (fun i => adm (ch i) k x) n = true) (2 * sumN (fun i => (ch i).sz) n) r ∧ Below w.heap.size w w'
set_option maxHeartbeats 16000000 in
theorem combined_two (u : Bool) (fn : FuncId) (hop : OpOK u fn) (hen0 : Enters Tryz.prog fn) (k : Nat) (vs : Option Addr) (vn vc : Nat) (n : Nat) (hn2 : 2 ≤ n) (B : Nat) (w : World) (a : Option Addr) (cap : Nat) (ch : Nat → CT)
    (hin : LIn B w a n cap ch) (hB : B ≤ w.heap.size) (hK : 2 * sumN (fun i => (ch i).sz) n ≤ 1000)
    (hrec : ∀ n', 1 ≤ n' → n' < n → ∀ (B : Nat) (w' : World) (a' : Option Addr) (cap' : Nat) (ch' : Nat → CT), LIn B w' a' n' cap' ch' → B ≤ w'.heap.size → 2 * sumN (fun i => (ch' i).sz) n' ≤ 1000 → (∀ i, i < n' → ∃ j, j < n ∧ ch' i = ch j) → CombOK u fn k vs vn vc a' n' cap' ch' w') :
    CombOK u fn k vs vn vc a n cap ch w := by
  have hen : ∀ (args : Array Value) (w : World), (callFunc fn args).run Tryz.prog w = .ok (.enter fn args) w := hen0
  obtain ⟨g, o, rfl, hg, _⟩ := hin.1.2.2.2 (by omega)
  have hcap := hin.1.1
  have hcap2 := hin.1.2.1
  obtain ⟨h, hh⟩ : ∃ h, n / 2 = h := ⟨_, rfl⟩
  have qh : (n : Int).tdiv 2 = (h : Int) := by rw [Int.tdiv_eq_ediv_of_nonneg (by omega)]; omega
  have hh1 : 1 ≤ h := by omega
  have hh2 : h < n := by omega
  obtain ⟨m, hm⟩ : ∃ m, n - h = m := ⟨_, rfl⟩
  obtain ⟨cm, hcm⟩ : ∃ cm, cap - h = cm := ⟨_, rfl⟩
  have hcut := sumN_cut (fun i => (ch i).sz) h n (by omega)
  rw [hm] at hcut
  have HL := Lib.hid (fun (w1 : World) (hb : Below w.heap.size w w1) => hrec h hh1 hh2 w.heap.size w1 (some ⟨g, o, none⟩) cap ch (((hin.take (Nat.le_of_lt hh2)).below (Below.refl _ _) hB).below hb (Nat.le_refl _)) hb.size (by omega) (fun i hi => ⟨i, by omega, rfl⟩))
  have HR := Lib.hid (fun (w1 : World) (hb : Below w.heap.size w w1) => hrec m (by omega) (by omega) w.heap.size w1 (some ⟨g, o + h * 6, none⟩) cm (fun i => ch (h + i)) (by
    have := (hin.drop (k := h) (Nat.le_of_lt hh2) (o + h * 6) (fun _ => rfl)).below (Below.refl _ _) hB
    rw [hm, hcm] at this
    exact this.below hb (Nat.le_refl _)) hb.size (by omega) (fun i hi => ⟨h + i, by omega, rfl⟩))
  unfold CombOK at HL HR ⊢
  have QW2 := Lib.hid (show wrap64 (h : Int) = (h : Int) by unfold wrap64; omega)
  have QW := Lib.hid (show IntKind.i64.wrap (h : Int) = (h : Int) from wrap_ok (by unfold I64; omega))
  have x1 : (0 : Int) ≤ (h : Int) := by omega
  have x2 : (h : Int) ≤ (n : Int) := by omega
  have x3 : (n : Int) ≤ (cap : Int) := by omega
  have x4 : (h : Int) ≤ (cap : Int) := by omega
  have x5 : ¬ cap = h := by omega
  have hs1 := conSlice_h g o n cap h (by omega)
  have hs2 := conSlice_l g o n cap h m cm (by omega) x5 hm hcm
  have qe0 : ((n : Int) == 0) = false := beq_false_of_ne (by omega)
  have qe1 : ((n : Int) == 1) = false := beq_false_of_ne (by omega)
  have qn0 : (n == 0) = false := beq_false_of_ne (by omega)
  have qn1 : (n == 1) = false := beq_false_of_ne (by omega)
  have HOP := Lib.hid (hop w.heap.size)
  have HBd := Lib.hid (Below.drew (Below.refl w.heap.size w))
  have HFIN := Lib.hid (show ∀ (w3 : World) (v : Value) (ra rb r : List Rg), Bd ra → Bd rb → (∀ x, I64 x → (mem ra x ↔ foldU u (fun i => adm (ch i) k x) h = true)) → (∀ x, I64 x → (mem rb x ↔ foldU u (fun i => adm (ch (h + i)) k x) m = true)) → ra.length ≤ 2 * sumN (fun i => (ch i).sz) h → rb.length ≤ 2 * sumN (fun i => (ch (h + i)).sz) m →
      OwnA w.heap.size w3 v (fun x => comb u (mem ra x) (mem rb x)) (ra.length + rb.length) r → OwnA w.heap.size w3 v (fun x => foldU u (fun i => adm (ch i) k x) n = true) (2 * sumN (fun i => (ch i).sz) n) r from fun w3 v ra rb r _ _ h1 h2 h3 h4 h5 => h5.cast (fun x hx => (comb_congr u (h1 x hx) (h2 x hx)).trans (by rw [← hm]; exact (foldU_split u (fun i => adm (ch i) k x) h n (by omega)).symm)) (by omega))
  have HK := Lib.hid (show 2 * sumN (fun i => (ch i).sz) h ≤ 1000 ∧ 2 * sumN (fun i => (ch (h + i)).sz) m ≤ 1000 by omega)
  generalize o + h * 6 = o2 at *
  generalize (fun i => (ch i).sz) = s1 at *
  generalize (fun i => (ch (h + i)).sz) = s2 at *
  generalize hp0 : (fun x => foldU u (fun i => adm (ch i) k x) n = true) = p0 at *
  clear hop hrec hin hB hK hg hcap2 hh hcut hp0 hn2 hh1 hh2 hcap hm hcm x1 x2 x3 x4 x5
  have qw := QW.out
  have qw2 := QW2.out
  go_enter Tryz.func158, Tryz.ntmps158
  go_wp2_with fail
  go_region_held3 (fun _ => True) (trivial) (first
    | (have z := HC; clear z; refine HC.out.mono ?_; rintro e w3 ⟨v, r, rfl, h1, h2⟩; have HF := Lib.hid (HFIN.out w3 v ra rb r HA3.out.2.1 HA2.out.2.1 HA3.out.2.2.1 HA2.out.2.2.1 HA3.out.2.2.2 HA2.out.2.2.2 h1); have HB3 := Lib.hid (HB2.out.trans (h2.mono (Nat.le_refl _))); clear h1 h2)
    | (go_at_call 158; (with_reducible refine (HL.out _ HBd.out).mono ?_); rintro e w1 ⟨va, ra, rfl, h1, h2⟩; have HA1 := Lib.hid h1; have HB1 := Lib.hid (HBd.out.trans (h2.mono HBd.out.size)); clear h1 h2)
    | (have z := HB1; clear z; go_at_call 158; (with_reducible refine (HR.out _ HB1.out).mono ?_); rintro e w2 ⟨vb, rb, rfl, h1, h2⟩; have HB2 := Lib.hid (HB1.out.trans (h2.mono HB1.out.size)); have HA2 := Lib.hid h1; have HA3 := Lib.hid (HA1.out.below h2); have HC := Lib.hid (HOP.out w2 va vb ra rb HB2.out.size HA3.out.1 (h1.1.base HB1.out.size) HA3.out.2.1 h1.2.1 (Nat.le_trans HA3.out.2.2.2 HK.out.1) (Nat.le_trans h1.2.2.2 HK.out.2)); clear h1 h2))
  all_goals go_wp2_with fail
  all_goals go_ret
  all_goals exact ⟨_, r, rfl, HF.out, HB3.out⟩
end Go.Proofs.YtmaghmdcagdkhaaGreat

/-
  Package bounds: 'combined', 'byOne', 'byAll', 'between', 'admitted', 'Set'.
-/
namespace Go.Proofs.YtmaghmdcagdkhaaGreat
open Go.RowKit Go.Shelf
set_option linter.unusedVariables false
set_option linter.unusedSimpArgs false
set_option maxRecDepth 100000

theorem combined_ok (u : Bool) (fn : FuncId) (hop : OpOK u fn) (hen0 : Enters Tryz.prog fn) (k : Nat) (vs : Option Addr) (vn vc : Nat) : ∀ (N n : Nat), n ≤ N → 1 ≤ n → ∀ (B : Nat) (w : World) (a : Option Addr) (cap : Nat) (ch : Nat → CT),
    LIn B w a n cap ch → B ≤ w.heap.size → 2 * sumN (fun i => (ch i).sz) n ≤ 1000 → (∀ i, i < n → AdmOK (ch i) k) → CombOK u fn k vs vn vc a n cap ch w
  | 0, n, h, h1, _, _, _, _, _, _, _, _, _ => by omega
  | N + 1, n, h, h1, B, w, a, cap, ch, hin, hB, hs, hadm => by
    by_cases h2 : n = 1
    · subst h2
      refine (combined_one fn k B w a cap ch vs vn vc hin hB (hadm 0 (by omega))).mono ?_
      rintro e w' ⟨v, r, rfl, h3, h4⟩
      exact ⟨v, r, rfl, h3.cast (fun x _ => by rw [foldU_one]) (by rw [sumN_one]; exact Nat.le_refl _), h4⟩
    · exact combined_two u fn hop hen0 k vs vn vc n (by omega) B w a cap ch hin hB hs fun n' a1 a2 B w' a' cap' ch' hl hB' hs' hsub =>
        combined_ok u fn hop hen0 k vs vn vc N n' (by omega) a1 B w' a' cap' ch' hl hB' hs' (fun i hi => by
          obtain ⟨j, hj, e⟩ := hsub i hi
          rw [e]
          exact hadm j hj)
set_option maxHeartbeats 1000000 in
theorem combined_zero (fn : FuncId) (k : Nat) (w : World) (a : Option Addr) (cap : Nat) (vs : Option Addr) (vn vc : Nat) :
    Calls Tryz.prog 158 #[.slice a 0 cap, .int .i64 (k : Nat), .slice vs vn vc, .func (.func fn) #[] #[]] w fun e w' => e = .returned (.slice vs vn vc) ∧ w' = w := by
  go_enter Tryz.func158, Tryz.ntmps158
  go_wp2_with fail
  go_ret
  exact ⟨rfl, rfl⟩
theorem foldU_nil (u : Bool) (f : Nat → Bool) : (foldU u f 0 = true) ↔ u = false := by
  rw [foldU_zero]
  cases u <;> simp
set_option maxHeartbeats 2000000 in
theorem byOne_ok (k : Nat) (B : Nat) (w : World) (a : Option Addr) (n cap : Nat) (ch : Nat → CT) (hin : LIn B w a n cap ch) (hB : B ≤ w.heap.size) (hs : 2 * sumN (fun i => (ch i).sz) n ≤ 1000) (hadm : ∀ i, i < n → AdmOK (ch i) k) :
    Calls Tryz.prog 128 #[.slice a n cap, .int .i64 (k : Nat)] w fun e w' => ∃ v r, e = .returned v ∧ OwnA w.heap.size w' v (fun x => foldU true (fun i => adm (ch i) k x) n = true) (2 * sumN (fun i => (ch i).sz) n) r ∧ Below w.heap.size w w' := by
  have HC := Lib.hid (show Calls Tryz.prog 158 #[.slice a n cap, .int .i64 (k : Nat), .slice none 0 0, .func (.func 159) #[] #[]] w fun e w' => ∃ v r, e = .returned v ∧ OwnA w.heap.size w' v (fun x => foldU true (fun i => adm (ch i) k x) n = true) (2 * sumN (fun i => (ch i).sz) n) r ∧ Below w.heap.size w w' by
    rcases Nat.eq_zero_or_pos n with h0 | h0
    · subst h0
      refine (combined_zero 159 k w a cap none 0 0).mono ?_
      rintro e w' ⟨rfl, rfl⟩
      exact ⟨_, [], rfl, ⟨OwnR.nil _ _, Bd.nil, fun n _ => by show _ ↔ foldU true (fun i => adm (ch i) k n) 0 = true; rw [foldU_nil]; simp [mem_nil], by simp⟩, Below.refl _ _⟩
    · exact combined_ok true 159 append_op enters_append k none 0 0 n n (Nat.le_refl _) h0 B w a cap ch hin hB hs hadm)
  generalize (fun x => foldU true (fun i => adm (ch i) k x) n = true) = p at *
  clear hin hB hs hadm
  go_enter Tryz.func128, Tryz.ntmps128
  go_wp2_with fail
  refine HC.out.mono ?_
  rintro e w' ⟨v, r, rfl, h1, h2⟩
  have HA := Lib.hid h1
  have HB := Lib.hid h2
  clear h1 h2
  go_wp2_with fail
  go_ret
  exact ⟨_, r, rfl, HA.out, HB.out⟩
def bA (s : Nat → Nat) (n : Nat) : Nat := if n = 0 then 1 else 2 * sumN s n
set_option maxHeartbeats 2000000 in
theorem byAll_ok (k : Nat) (B : Nat) (w : World) (a : Option Addr) (n cap : Nat) (ch : Nat → CT) (hin : LIn B w a n cap ch) (hB : B ≤ w.heap.size) (hs : 2 * sumN (fun i => (ch i).sz) n ≤ 1000) (hadm : ∀ i, i < n → AdmOK (ch i) k) :
    Calls Tryz.prog 129 #[.slice a n cap, .int .i64 (k : Nat)] w fun e w' => ∃ v r, e = .returned v ∧ OwnA w.heap.size w' v (fun x => foldU false (fun i => adm (ch i) k x) n = true) (bA (fun i => (ch i).sz) n) r ∧ Below w.heap.size w w' := by
  have HW := Lib.hid (Whole_own w)
  have HC := Lib.hid (show ∀ (w1 : World) (vs : Option Addr) (vn vc : Nat), Below w.heap.size w w1 → OwnR w.heap.size w1 (.slice vs vn vc) wholeL → Calls Tryz.prog 158 #[.slice a n cap, .int .i64 (k : Nat), .slice vs vn vc, .func (.func 117) #[] #[]] w1 fun e w' => ∃ v r, e = .returned v ∧ OwnA w.heap.size w' v (fun x => foldU false (fun i => adm (ch i) k x) n = true) (bA (fun i => (ch i).sz) n) r ∧ Below w.heap.size w1 w' from fun w1 vs vn vc hb hw => by
    rcases Nat.eq_zero_or_pos n with h0 | h0
    · subst h0
      refine (combined_zero 117 k w1 a cap vs vn vc).mono ?_
      rintro e w' ⟨rfl, hw'⟩
      obtain rfl : w1 = w' := hw'.symm
      exact ⟨_, wholeL, rfl, ⟨hw, wholeL_bd, fun n hn => by show _ ↔ foldU false (fun i => adm (ch i) k n) 0 = true; rw [foldU_nil, wholeL_says.2.2 n hn]; simp, by simp [wholeL, bA]⟩, Below.refl _ _⟩
    · refine (combined_ok false 117 meet_op enters_meet k vs vn vc n n (Nat.le_refl _) h0 w.heap.size w1 a cap ch ((hin.below (Below.refl _ _) hB).below hb (Nat.le_refl _)) hb.size hs hadm).mono ?_
      rintro e w' ⟨v, r, rfl, h1, h2⟩
      exact ⟨v, r, rfl, (h1.base hb.size).cast (fun _ _ => Iff.rfl) (by unfold bA; rw [if_neg (by omega)]; exact Nat.le_refl _), h2.mono hb.size⟩)
  generalize (fun x => foldU false (fun i => adm (ch i) k x) n = true) = p at *
  clear hin hB hs hadm
  go_enter Tryz.func129, Tryz.ntmps129
  go_wp2_with fail
  refine HW.out.mono ?_
  rintro e w1 ⟨v1, rfl, h1, h2⟩
  obtain ⟨vs, vn, vc, rfl⟩ := h1.shape
  have HC1 := Lib.hid (HC.out w1 vs vn vc h2 h1)
  have HB1 := Lib.hid h2
  clear h1 h2 HC
  go_wp2_with fail
  refine HC1.out.mono ?_
  rintro e w' ⟨v, r, rfl, h1, h2⟩
  have HA := Lib.hid h1
  have HB := Lib.hid (HB1.out.trans h2)
  clear h1 h2
  go_wp2_with fail
  go_ret
  exact ⟨_, r, rfl, HA.out, HB.out⟩
set_option maxHeartbeats 2000000 in
theorem between_ok (w : World) (op lo hi : Int) (low high : Bool) (a : Option Addr) (n cap : Nat) :
    Calls Tryz.prog 127 #[.agg #[.int .i64 op, .int .i64 lo, .int .i64 hi, .bool low, .bool high, .slice a n cap]] w fun e w' => e = .returned (.agg #[.int .i64 (if low then -9223372036854775808 else lo), .int .i64 (if high then 9223372036854775807 else hi)]) ∧ Below w.heap.size w w' := by
  obtain ⟨lo', hlo⟩ : ∃ lo', (if low then -9223372036854775808 else lo) = lo' := ⟨_, rfl⟩
  obtain ⟨hi', hhi⟩ : ∃ hi', (if high then 9223372036854775807 else hi) = hi' := ⟨_, rfl⟩
  rw [hlo, hhi]
  cases low <;> cases high
  all_goals
    simp only [if_true, if_neg (by decide : ¬ (false = true))] at hlo hhi
    subst hlo
    subst hhi
    go_enter Tryz.func127, Tryz.ntmps127
    go_wp2_with fail
    refine bodyPost_ret (v := .agg #[.int .i64 _, .int .i64 _]) ?_ rfl ⟨rfl, ?_⟩
    · simp [results, Tryz.f127, go_sem]
    · exact (((Below.refl _ w).alloc (Nat.le_refl _) _).alloc (by simp) _).alloc (by simp; omega) _
end Go.Proofs.YtmaghmdcagdkhaaGreat

/-
  Package bounds: 'admitted', 'Set', 'Size'.
-/
namespace Go.Proofs.YtmaghmdcagdkhaaGreat
open Go.RowKit Go.Shelf
set_option linter.unusedVariables false
set_option linter.unusedSimpArgs false
set_option maxRecDepth 100000

theorem LIn.cutAt {B : Nat} {W : World} {a : Option Addr} {n cap : Nat} {ch : Nat → CT} (h : LIn B W a n cap ch) {f : Nat} (hf : f ≤ n) : ∃ a1 a2,
    (∀ w, (Instr.slice 87 (.slice a n cap) none (some (.int .i64 (f : Nat))) none).run Tryz.prog w = .ok (.slice a1 f cap) w) ∧
    (∀ w, (Instr.slice 87 (.slice a n cap) (some (.int .i64 (f : Nat))) none none).run Tryz.prog w = .ok (.slice a2 (n - f) (cap - f)) w) ∧
    LIn B W a1 f cap ch ∧ LIn B W a2 (n - f) (cap - f) (fun i => ch (f + i)) := by
  have hcap := h.1.1
  have hcap2 := h.1.2.1
  refine ⟨(if cap = 0 then a else a.map (·.add (0 * 6))), (if cap = f then a else a.map (·.add (f * 6))), fun w => ?_, fun w => ?_, ?_, ?_⟩
  · rw [run_slice_h (ht := con_under) (h0 := by omega) (h2 := by omega), con_elem, Tryz.sizeOf89]
    simp [Result.andThen, sliced]
  · rw [run_slice_l (ht := con_under) (h0 := by omega) (h1 := by omega), con_elem, Tryz.sizeOf89]
    simp [Result.andThen, sliced]
  · refine ⟨⟨by omega, by omega, fun e => ?_, fun h0 => ?_⟩, fun i hi => h.2 i (by omega)⟩
    · have : a = none := by
        split at e
        · exact e
        · simpa using e
      have := h.1.2.2.1 this
      omega
    · obtain ⟨g, o, e, hg, hc⟩ := h.1.2.2.2 (by omega)
      subst e
      rw [if_neg (by omega)]
      exact ⟨g, o, by simp [Addr.add_mid], hg, fun i hi => hc i (by omega)⟩
  · rcases Nat.eq_zero_or_pos n with h0 | h0
    · obtain rfl : f = 0 := by omega
      subst h0
      refine ⟨⟨by omega, by omega, fun e => ?_, fun h0 => absurd h0 (by omega)⟩, fun i hi => absurd hi (by omega)⟩
      have : a = none := by
        split at e
        · exact e
        · simpa using e
      have := h.1.2.2.1 this
      omega
    · obtain ⟨g, o, e, hg, hc⟩ := h.1.2.2.2 h0
      subst e
      by_cases hcf : cap = f
      · rw [if_pos hcf]
        exact h.drop hf o (fun h => by omega)
      · rw [if_neg hcf]
        have := h.drop hf (o + f * 6) (fun _ => rfl)
        simpa [Addr.add_mid] using this
/-- the children of a node -/
theorem sz_child {ch : Nat → CT} {n i : Nat} (h : i < n) : (ch i).sz ≤ sumN (fun i => (ch i).sz) n := sumN_le (fun i => (ch i).sz) h
set_option maxHeartbeats 16000000 in
theorem admitted_ok : ∀ (c : CT) (k : Nat), k ≤ 40 → 2 * c.sz ≤ 1000 → AdmOK c k
  | .nil, k, _, _ => fun B w h _ => h.elim
  | .mk op lo hi low high a n cap ch, k, hk, hsz => fun B w hin hB => by
    obtain ⟨hI, hrow, hch⟩ := hin
    have hl : LIn B w a n cap ch := ⟨hrow, hch⟩
    have hb0 : Below w.heap.size w (w.alloc (.cells #[.int .i64 op, .int .i64 lo, .int .i64 hi, .bool low, .bool high, .slice a n cap] 89)) := (Below.refl _ _).alloc (Nat.le_refl _) _
    have hbx := Bx.new w #[.int .i64 op, .int .i64 lo, .int .i64 hi, .bool low, .bool high, .slice a n cap] 89
    have HB0 := Lib.hid hb0
    have HX0 := Lib.hid hbx
    clear hb0 hbx hrow hch
    show Calls _ _ #[.agg #[.int .i64 op, .int .i64 lo, .int .i64 hi, .bool low, .bool high, .slice a n cap], .int .i64 (k : Nat)] w _
    have HNO := Lib.hid (show ∀ (w' : World) (p : Int → Prop), (∀ x, I64 x → ¬ p x) → OwnA w.heap.size w' (.slice none 0 0) p (2 * (CT.mk op lo hi low high a n cap ch).sz) [] from fun w' p hp => ⟨OwnR.nil _ _, Bd.nil, fun x hx => ⟨fun h => absurd h mem_nil, fun h => absurd h (hp x hx)⟩, by simp⟩)
    rcases Nat.eq_zero_or_pos k with hk0 | hk0
    · subst hk0
      have HF := Lib.hid (HNO.out (w.alloc (.cells #[.int .i64 op, .int .i64 lo, .int .i64 hi, .bool low, .bool high, .slice a n cap] 89)) (fun x => adm (CT.mk op lo hi low high a n cap ch) 0 x = true) (fun x _ => by rw [adm_zero]; simp))
      generalize (fun x => adm (CT.mk op lo hi low high a n cap ch) 0 x = true) = p at *
      generalize 2 * (CT.mk op lo hi low high a n cap ch).sz = K at *
      clear hl hI hB hsz hk HNO
      go_enter Tryz.func118, Tryz.ntmps118
      go_wp2_with fail
      go_ret
      exact ⟨_, _, rfl, HF.out, HB0.out⟩
    obtain ⟨j, rfl⟩ : ∃ j, k = j + 1 := ⟨k - 1, by omega⟩
    have hszc := CT.sz_mk op lo hi low high a n cap ch
    have hadm : ∀ i, i < n → AdmOK (ch i) j := fun i hi => admitted_ok (ch i) j (by omega) (by have := sz_child (ch := ch) hi; omega)
    have hs : 2 * sumN (fun i => (ch i).sz) n ≤ 1000 := by omega
    have hsub : (fun i => (ch i).sz) = (fun i => (ch i).sz) := rfl
    obtain ⟨K, hK⟩ : ∃ K, 2 * (CT.mk op lo hi low high a n cap ch).sz = K := ⟨_, rfl⟩
    have HK := Lib.hid (show K = 2 + 2 * sumN (fun i => (ch i).sz) n by omega)
    rw [hK] at HNO ⊢
    obtain ⟨d, hd⟩ : ∃ d : Nat, j + 1 = d := ⟨_, rfl⟩
    have qd0 : ((d : Int) == 0) = false := beq_false_of_ne (by omega)
    have qd0n : (d == 0) = false := beq_false_of_ne (by omega)
    have QS := Lib.hid (show IntKind.i64.wrap ((d : Int) - 1) = (j : Int) from (wrap_ok (by unfold I64; omega)).trans (by omega))
    have hBw : B ≤ w.heap.size := hB
    clear hK hszc hsz hk hk0 hsub
    by_cases h0 : op = 0
    · subst h0
      have HP := Lib.hid (show ∀ (w1 w' : World) (v : Value), OwnR w1.heap.size w' v wholeL → w.heap.size ≤ w1.heap.size → OwnA w.heap.size w' v (fun x => adm (CT.mk 0 lo hi low high a n cap ch) (j + 1) x = true) K wholeL from fun w1 w' v h hs => ⟨h.base hs, wholeL_bd, fun x hx => by show _ ↔ adm (CT.mk 0 lo hi low high a n cap ch) (j + 1) x = true; rw [adm_all, wholeL_says.2.2 x hx]; simp, by have := HK.out; simp [wholeL]; omega⟩)
      generalize (fun x => adm (CT.mk 0 lo hi low high a n cap ch) (j + 1) x = true) = p at *
      rw [hd]
      have HC := Lib.hid (Whole_own (w.alloc (.cells #[.int .i64 0, .int .i64 lo, .int .i64 hi, .bool low, .bool high, .slice a n cap] 89)))
      clear hl hI hB hBw hs hadm hd HNO
      go_enter Tryz.func118, Tryz.ntmps118
      go_wp2_with fail
      refine HC.out.mono ?_
      rintro e w1 ⟨v, rfl, h1, h2⟩
      obtain ⟨sv, nv, cv, rfl⟩ := h1.shape
      have HF := Lib.hid (HP.out _ _ _ h1 HB0.out.size)
      have HB1 := Lib.hid (HB0.out.trans (h2.mono HB0.out.size))
      clear h1 h2 HC
      go_wp2_with fail
      go_ret
      exact ⟨_, _, rfl, HF.out, HB1.out⟩
    by_cases h1 : op = 1
    · subst h1
      obtain ⟨lo', hlo⟩ : ∃ lo', (if low then -9223372036854775808 else lo) = lo' := ⟨_, rfl⟩
      obtain ⟨hi', hhi⟩ : ∃ hi', (if high then 9223372036854775807 else hi) = hi' := ⟨_, rfl⟩
      have hi1 : I64 lo' := by
        rw [← hlo]
        split
        · unfold I64; omega
        · exact hI.2.1
      have hi2 : I64 hi' := by
        rw [← hhi]
        split
        · unfold I64; omega
        · exact hI.2.2
      have HP := Lib.hid (show ∀ (w1 w' : World) (v : Value), OwnR w1.heap.size w' v [(lo', hi')] → w.heap.size ≤ w1.heap.size → OwnA w.heap.size w' v (fun x => adm (CT.mk 1 lo hi low high a n cap ch) (j + 1) x = true) K [(lo', hi')] from fun w1 w' v h hs => ⟨h.base hs, Bd.cons.2 ⟨⟨hi1, hi2⟩, Bd.nil⟩, fun x hx => by
        show _ ↔ adm (CT.mk 1 lo hi low high a n cap ch) (j + 1) x = true
        rw [adm_span, mem_one]
        simp only [Bool.and_eq_true, Bool.or_eq_true, decide_eq_true_eq]
        refine and_congr ?_ ?_
        · show lo' ≤ x ↔ _
          rw [← hlo]
          unfold I64 at hx
          cases low <;> simp <;> omega
        · show x ≤ hi' ↔ _
          rw [← hhi]
          unfold I64 at hx
          cases high <;> simp <;> omega, by have := HK.out; simp; omega⟩)
      generalize (fun x => adm (CT.mk 1 lo hi low high a n cap ch) (j + 1) x = true) = p at *
      rw [hd]
      have HC := Lib.hid (between_ok (w.alloc (.cells #[.int .i64 1, .int .i64 lo, .int .i64 hi, .bool low, .bool high, .slice a n cap] 89)) 1 lo hi low high a n cap)
      rw [hlo, hhi] at HC
      clear hl hI hB hBw hs hadm hd HNO h0 hi1 hi2 hlo hhi
      go_enter Tryz.func118, Tryz.ntmps118
      go_wp2_with fail
      refine HC.out.mono ?_
      rintro e w1 ⟨rfl, h2⟩
      have HB1 := Lib.hid (HB0.out.trans (h2.mono HB0.out.size))
      have HL := Lib.hid (own_lit w1 [(lo', hi')] (by simp) #[.int .i64 lo', .int .i64 hi'] rfl 1 rfl)
      have HF := Lib.hid (HP.out _ _ _ HL.out HB1.out.size)
      have HB2 := Lib.hid (HB1.out.alloc HB1.out.size (.cells #[.int .i64 lo', .int .i64 hi'] 82))
      clear h2 HC
      go_wp2_with fail
      go_ret
      exact ⟨_, _, rfl, HF.out, HB2.out⟩
    by_cases h2 : op = 2
    · subst h2
      have HC := Lib.hid (byOne_ok j w.heap.size (w.alloc (.cells #[.int .i64 2, .int .i64 lo, .int .i64 hi, .bool low, .bool high, .slice a n cap] 89)) a n cap ch ((hl.below (Below.refl _ _) hB).below HB0.out (Nat.le_refl _)) HB0.out.size hs hadm)
      have HP := Lib.hid (show ∀ (w1 w' : World) (v : Value) (r : List Rg), OwnA w1.heap.size w' v (fun x => foldU true (fun i => adm (ch i) j x) n = true) (2 * sumN (fun i => (ch i).sz) n) r → w.heap.size ≤ w1.heap.size → OwnA w.heap.size w' v (fun x => adm (CT.mk 2 lo hi low high a n cap ch) (j + 1) x = true) K r from fun w1 w' v r h hs => (h.base hs).cast (fun x _ => by show _ ↔ adm (CT.mk 2 lo hi low high a n cap ch) (j + 1) x = true; rw [adm_union]; rfl) (by have := HK.out; omega))
      generalize (fun x => adm (CT.mk 2 lo hi low high a n cap ch) (j + 1) x = true) = p at *
      generalize (fun x => foldU true (fun i => adm (ch i) j x) n = true) = p2 at *
      have qs := QS.out
      rw [hd]
      clear hl hI hB hBw hs hadm hd HNO h0 h1
      go_enter Tryz.func118, Tryz.ntmps118
      go_wp2_with fail
      refine HC.out.mono ?_
      rintro e w1 ⟨v, r, rfl, h1, h2⟩
      obtain ⟨sv, nv, cv, rfl⟩ := h1.1.shape
      have HF := Lib.hid (HP.out _ _ _ _ h1 HB0.out.size)
      have HB1 := Lib.hid (HB0.out.trans (h2.mono HB0.out.size))
      clear h1 h2 HC
      go_wp2_with fail
      go_ret
      exact ⟨_, _, rfl, HF.out, HB1.out⟩
    by_cases h3 : op = 3
    · subst h3
      have HC := Lib.hid (byAll_ok j w.heap.size (w.alloc (.cells #[.int .i64 3, .int .i64 lo, .int .i64 hi, .bool low, .bool high, .slice a n cap] 89)) a n cap ch ((hl.below (Below.refl _ _) hB).below HB0.out (Nat.le_refl _)) HB0.out.size hs hadm)
      have HP := Lib.hid (show ∀ (w1 w' : World) (v : Value) (r : List Rg), OwnA w1.heap.size w' v (fun x => foldU false (fun i => adm (ch i) j x) n = true) (bA (fun i => (ch i).sz) n) r → w.heap.size ≤ w1.heap.size → OwnA w.heap.size w' v (fun x => adm (CT.mk 3 lo hi low high a n cap ch) (j + 1) x = true) K r from fun w1 w' v r h hs => (h.base hs).cast (fun x _ => by show _ ↔ adm (CT.mk 3 lo hi low high a n cap ch) (j + 1) x = true; rw [adm_meet]; rfl) (by have := HK.out; unfold bA; split <;> omega))
      generalize (fun x => adm (CT.mk 3 lo hi low high a n cap ch) (j + 1) x = true) = p at *
      generalize (fun x => foldU false (fun i => adm (ch i) j x) n = true) = p2 at *
      have qs := QS.out
      rw [hd]
      clear hl hI hB hBw hs hadm hd HNO h0 h1 h2
      go_enter Tryz.func118, Tryz.ntmps118
      go_wp2_with fail
      refine HC.out.mono ?_
      rintro e w1 ⟨v, r, rfl, h1, h2⟩
      obtain ⟨sv, nv, cv, rfl⟩ := h1.1.shape
      have HF := Lib.hid (HP.out _ _ _ _ h1 HB0.out.size)
      have HB1 := Lib.hid (HB0.out.trans (h2.mono HB0.out.size))
      clear h1 h2 HC
      go_wp2_with fail
      go_ret
      exact ⟨_, _, rfl, HF.out, HB1.out⟩
    by_cases h4 : op = 4
    · subst h4
      obtain ⟨f, hf⟩ : ∃ f, min 1 n = f := ⟨_, rfl⟩
      have hfn : f ≤ n := by omega
      obtain ⟨a1, a2, hs1, hs2, hl1, hl2⟩ := hl.cutAt hfn
      have hcut := sumN_cut (fun i => (ch i).sz) f n hfn
      obtain ⟨m, hm⟩ : ∃ m, n - f = m := ⟨_, rfl⟩
      obtain ⟨cm, hcm⟩ : ∃ cm, cap - f = cm := ⟨_, rfl⟩
      rw [hm] at hcut hs2 hl2
      rw [hcm] at hs2 hl2
      have HA := Lib.hid (fun (w1 : World) (hb : Below w.heap.size w w1) => byAll_ok j w.heap.size w1 a1 f cap ch ((hl1.below (Below.refl _ _) hB).below hb (Nat.le_refl _)) hb.size (by omega) (fun i hi => hadm i (by omega)))
      have HO := Lib.hid (fun (w1 : World) (hb : Below w.heap.size w w1) => byOne_ok j w.heap.size w1 a2 m cm (fun i => ch (f + i)) ((hl2.below (Below.refl _ _) hB).below hb (Nat.le_refl _)) hb.size (by omega) (fun i hi => hadm (f + i) (by omega)))
      have HP := Lib.hid (show ∀ (w2 w' : World) (v : Value) (ra rb r : List Rg), (∀ x, I64 x → (mem ra x ↔ foldU false (fun i => adm (ch i) j x) f = true)) → (∀ x, I64 x → (mem rb x ↔ foldU true (fun i => adm (ch (f + i)) j x) m = true)) → ra.length ≤ bA (fun i => (ch i).sz) f → rb.length ≤ 2 * sumN (fun i => (ch (f + i)).sz) m →
          AnsO w2.heap.size w' v (fun x => mem ra x ∧ ¬ mem rb x) (ra.length + (rb.length + 1)) r → w.heap.size ≤ w2.heap.size → OwnA w.heap.size w' v (fun x => adm (CT.mk 4 lo hi low high a n cap ch) (j + 1) x = true) K r from fun w2 w' v ra rb r e1 e2 e3 e4 h hs => (h.ownA.base hs).cast (fun x hx => by
        show _ ↔ adm (CT.mk 4 lo hi low high a n cap ch) (j + 1) x = true
        rw [adm_except, except_iff, hf, hm]
        exact and_congr (e1 x hx) (not_congr (e2 x hx))) (by
          have := HK.out
          unfold bA at e3
          split at e3 <;> omega))
      have HSZ := Lib.hid (show bA (fun i => (ch i).sz) f ≤ 1000 ∧ 2 * sumN (fun i => (ch (f + i)).sz) m ≤ 1000 by unfold bA; split <;> omega)
      have qmin : min (1 : Int) (n : Int) = (f : Int) := by omega
      have c5 := HX0.out.cell 5 rfl
      have HS := Lib.hid (show ∀ w', Below (w.alloc (.cells #[.int .i64 4, .int .i64 lo, .int .i64 hi, .bool low, .bool high, .slice a n cap] 89)).heap.size (w.alloc (.cells #[.int .i64 4, .int .i64 lo, .int .i64 hi, .bool low, .bool high, .slice a n cap] 89)) w' → w'.cell? ⟨w.heap.size, 5, none⟩ = some (.slice a n cap) from fun w' hb => (HX0.out.below hb HX0.out.lt).cell 5 rfl)
      generalize (fun x => adm (CT.mk 4 lo hi low high a n cap ch) (j + 1) x = true) = p at *
      have qs := QS.out
      rw [hd]
      clear hl hI hB hBw hs hadm hd HNO h0 h1 h2 h3 hcut hl1 hl2 hf hfn hm hcm
      go_enter Tryz.func118, Tryz.ntmps118
      go_wp2_with fail
      generalize w.alloc (.cells #[.int .i64 4, .int .i64 lo, .int .i64 hi, .bool low, .bool high, .slice a n cap] 89) = W at *
      have HBW := Lib.hid (Below.drew (Below.refl W.heap.size W))
      have HBd := Lib.hid (HB0.out.trans (HBW.out.mono HB0.out.size))
      have HS0 := Lib.hid (HS.out _ HBW.out)
      go_region_held3 (fun w' => w'.cell? ⟨w.heap.size, 5, none⟩ = some (.slice a n cap)) (first | with_reducible exact HS3.out | with_reducible exact HS2.out | with_reducible exact HS1.out | with_reducible exact HS0.out) (first
        | (go_at_call 129; (with_reducible refine (HA.out _ HBd.out).mono ?_); rintro e w1 ⟨va, ra, rfl, h1, h2⟩; have HA1 := Lib.hid h1; have HBW1 := Lib.hid (HBW.out.trans h2); have HS1 := Lib.hid (HS.out _ HBW1.out); have HB1 := Lib.hid (HB0.out.trans (HBW1.out.mono HB0.out.size)); clear h1 h2)
        | (go_at_call 128; (with_reducible refine (HO.out _ HB1.out).mono ?_); rintro e w2 ⟨vb, rb, rfl, h1, h2⟩; have HA2 := Lib.hid h1; have HA3 := Lib.hid (HA1.out.below h2); have HBW2 := Lib.hid (HBW1.out.trans (h2.mono HBW1.out.size)); have HS2 := Lib.hid (HS.out _ HBW2.out); have HB2 := Lib.hid (HB0.out.trans (HBW2.out.mono HB0.out.size)); have HC := Lib.hid (Minus_own w2 va vb ra rb HA3.out.rsl HA2.out.rsl (Nat.le_trans (Nat.le_trans HA3.out.2.2.2 HSZ.out.1) (by decide)) (Nat.le_trans (Nat.le_trans HA2.out.2.2.2 HSZ.out.2) (by decide))); clear h1 h2)
        | (go_at_call 130; (with_reducible refine HC.out.mono ?_); rintro e w3 ⟨v, r, rfl, h1, h2⟩; have HBW3 := Lib.hid (HBW2.out.trans (h2.mono HBW2.out.size)); have HS3 := Lib.hid (HS.out _ HBW3.out); have HF := Lib.hid (HP.out _ _ _ _ _ _ HA3.out.2.2.1 HA2.out.2.2.1 HA3.out.2.2.2 HA2.out.2.2.2 h1 HB2.out.size); have HB3 := Lib.hid (HB0.out.trans (HBW3.out.mono HB0.out.size)); clear h1 h2))
      all_goals go_wp2_with fail
      all_goals go_ret
      all_goals exact ⟨_, r, rfl, HF.out, HB3.out⟩
    · have HF := Lib.hid (HNO.out (w.alloc (.cells #[.int .i64 op, .int .i64 lo, .int .i64 hi, .bool low, .bool high, .slice a n cap] 89)) (fun x => adm (CT.mk op lo hi low high a n cap ch) (j + 1) x = true) (fun x _ => by rw [adm_other op lo hi low high a n cap ch j x h0 h1 h2 h3 h4]; simp))
      generalize (fun x => adm (CT.mk op lo hi low high a n cap ch) (j + 1) x = true) = p at *
      have z0 : (op == 0) = false := beq_false_of_ne h0
      have z1 : (op == 1) = false := beq_false_of_ne h1
      have z2 : (op == 2) = false := beq_false_of_ne h2
      have z3 : (op == 3) = false := beq_false_of_ne h3
      have z4 : (op == 4) = false := beq_false_of_ne h4
      rw [hd]
      clear hl hI hB hBw hs hadm hd HNO h0 h1 h2 h3 h4
      go_enter Tryz.func118, Tryz.ntmps118
      go_wp2_with fail
      go_ret
      exact ⟨_, _, rfl, HF.out, HB0.out⟩
end Go.Proofs.YtmaghmdcagdkhaaGreat
