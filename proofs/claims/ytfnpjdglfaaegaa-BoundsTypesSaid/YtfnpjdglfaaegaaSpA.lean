/-
  Package spans: Norm, Union, Meet, Minus, Whole.
-/
import Derived.Test.YtfnpjdglfaaegaaSpC
import Derived.Test.YtfnpjdglfaaegaaSpD
namespace Go.Proofs.Ytfnpjdglfaaegaa
open Go.RowKit Go.Shelf
set_option linter.unusedVariables false
set_option linter.unusedSimpArgs false
set_option maxRecDepth 100000

/-- the slice v holds the right set of the numbers for which p holds, of at most K ranges -/
def Ans (w : World) (v : Value) (p : Int → Prop) (K : Nat) (r : List Rg) : Prop := RSl w v r ∧ Says r p ∧ r.length ≤ K
theorem vat_one (w : World) (v : Value) (l : List Rg) (h : RSl w v l) (t : TypeId) : VAt (w.alloc (.cells #[v] t)) w.heap.size [l] := by
  intro i hi
  obtain rfl : i = 0 := by simpa using hi
  exact ⟨v, by simp, h.below ((Below.refl _ _).alloc (Nat.le_refl _) _)⟩
theorem vat_two (w : World) (v1 v2 : Value) (l1 l2 : List Rg) (h1 : RSl w v1 l1) (h2 : RSl w v2 l2) (t : TypeId) : VAt (w.alloc (.cells #[v1, v2] t)) w.heap.size [l1, l2] := by
  intro i hi
  have hb := (Below.refl w.heap.size w).alloc (Nat.le_refl _) (.cells #[v1, v2] t)
  match i, hi with
  | 0, _ => exact ⟨v1, by simp, h1.below hb⟩
  | 1, _ => exact ⟨v2, by simp, h2.below hb⟩
theorem NormOf.says {ls : List (List Rg)} {r : List Rg} (h : NormOf ls r) (hb : Bd r) (p : Int → Prop) (hp : ∀ n, (∃ s ∈ ls, mem s n) ↔ p n) : Says r p :=
  ⟨h.rgt, hb, fun n _ => (h.tells n).trans (hp n)⟩
theorem one_list (l : List Rg) (n : Int) : (∃ s ∈ [l], mem s n) ↔ mem l n := by simp
theorem two_lists (a b : List Rg) (n : Int) : (∃ s ∈ [a, b], mem s n) ↔ mem a n ∨ mem b n := by simp
/-- 'normalized' of one list -/
theorem norm_one (w : World) (v : Value) (l : List Rg) (h : RSl w v l) (hl : l.length ≤ 100000) :
    Calls Try.prog 44 #[.slice (some ⟨w.heap.size, 0, none⟩) 1 1] (w.alloc (.cells #[v] 25)) fun e w' => ∃ v' r, e = .returned v' ∧ Ans w' v' (mem l) l.length r ∧ Below w.heap.size w w' := by
  have hb := (Below.refl w.heap.size w).alloc (Nat.le_refl _) (.cells #[v] 25)
  refine (normalized_ok (w.alloc (.cells #[v] 25)) w.heap.size 1 [l] (vat_one w v l h _) rfl (by simp; omega) (by omega)).mono ?_
  rintro e w' ⟨v', r, rfl, h1, h2, h3⟩
  exact ⟨v', r, rfl, ⟨h1, h2.says h1.bd _ (one_list l), by have := h2.len; simpa using this⟩, hb.trans (h3.mono (by simp))⟩
set_option maxHeartbeats 1000000 in
theorem Norm_ok (w : World) (v : Value) (l : List Rg) (h : RSl w v l) (hl : l.length ≤ 100000) :
    Calls Try.prog 35 #[v] w fun e w' => ∃ v' r, e = .returned v' ∧ Ans w' v' (mem l) l.length r ∧ Below w.heap.size w w' := by
  obtain ⟨sa, ca, rfl⟩ := h.shape
  have HC := Lib.hid (norm_one w _ l h hl)
  clear h hl
  go_enter Try.func35, Try.ntmps35
  go_wp2_with fail
  refine HC.out.mono ?_
  rintro e w' ⟨v', r, rfl, h1, h2⟩
  have HA := Lib.hid h1
  have HB := Lib.hid h2
  clear h1 h2
  go_wp2_with fail
  go_ret
  exact ⟨_, r, rfl, HA.out, HB.out⟩
set_option maxHeartbeats 1000000 in
theorem Union_ok (w : World) (va vb : Value) (a b : List Rg) (ha : RSl w va a) (hb : RSl w vb b) (hla : a.length ≤ 100000) (hlb : b.length ≤ 100000) :
    Calls Try.prog 25 #[va, vb] w fun e w' => ∃ v' r, e = .returned v' ∧ Ans w' v' (fun n => mem a n ∨ mem b n) (a.length + b.length) r ∧ Below w.heap.size w w' := by
  obtain ⟨sa, ca, rfl⟩ := ha.shape
  obtain ⟨sb, cb, rfl⟩ := hb.shape
  have HB0 := Lib.hid ((Below.refl w.heap.size w).alloc (Nat.le_refl _) (.cells #[.slice sa a.length ca, .slice sb b.length cb] 25))
  have hsz : w.heap.size ≤ (w.alloc (.cells #[.slice sa a.length ca, .slice sb b.length cb] 25)).heap.size := by simp
  have HS := Lib.hid hsz
  have HC := Lib.hid (normalized_ok (w.alloc (.cells #[.slice sa a.length ca, .slice sb b.length cb] 25)) w.heap.size 2 [a, b] (vat_two w _ _ a b ha hb _) rfl (by simp; omega) (by omega))
  clear ha hb hla hlb hsz
  go_enter Try.func25, Try.ntmps25
  go_wp2_with fail
  refine HC.out.mono ?_
  rintro e w' ⟨v', r, rfl, h1, h2, h3⟩
  have HA := Lib.hid (show Ans w' v' (fun n => mem a n ∨ mem b n) (a.length + b.length) r from ⟨h1, h2.says h1.bd _ (two_lists a b), by have := h2.len; simpa using this⟩)
  have HB := Lib.hid (HB0.out.trans (h3.mono HS.out))
  clear h1 h2 h3 HC HB0
  go_wp2_with fail
  go_ret
  exact ⟨_, r, rfl, HA.out, HB.out⟩
theorem common_says {a b : List Rg} {p q : Int → Prop} (ha : Says a p) (hb : Says b q) : Says (cmn a b) (fun n => p n ∧ q n) ∧ (cmn a b).length ≤ a.length + b.length := by
  obtain ⟨h1, h2, h3, h4⟩ := cmn_ok (a.length + b.length) a b (Nat.le_refl _) ha.1 hb.1 ha.2.1 hb.2.1
  exact ⟨⟨h1, h2, fun n hn => by rw [h3 n, ha.2.2 n hn, hb.2.2 n hn]⟩, h4⟩
theorem others_says {a : List Rg} {p : Int → Prop} (ha : Says a p) : Says (oth (-9223372036854775808) a) (fun n => ¬ p n) ∧ (oth (-9223372036854775808) a).length ≤ a.length + 1 := by
  have hi : I64 (-9223372036854775808) := by unfold I64; omega
  obtain ⟨h1, h2, _, h4, h5⟩ := oth_ok a (-9223372036854775808) ha.1 ha.2.1 hi (fun _ _ => .inl rfl)
  refine ⟨⟨h1, h2, fun n hn => ?_⟩, h5⟩
  rw [h4 n hn, ha.2.2 n hn]
  unfold I64 at hn
  exact ⟨fun h => h.2, fun h => ⟨hn.1, h⟩⟩
/-- 'common' of two answers -/
theorem common_ans (w : World) (va vb : Value) (a b : List Rg) (p q : Int → Prop) (K L : Nat) (ha : Ans w va p K a) (hb : Ans w vb q L b) (hK : K + L ≤ 1000000) :
    Calls Try.prog 45 #[va, vb] w fun e w' => ∃ v' r, e = .returned v' ∧ Ans w' v' (fun n => p n ∧ q n) (K + L) r ∧ Below w.heap.size w w' := by
  obtain ⟨ha1, ha2, ha3⟩ := ha
  obtain ⟨hb1, hb2, hb3⟩ := hb
  obtain ⟨sa, ca, rfl⟩ := ha1.shape
  obtain ⟨sb, cb, rfl⟩ := hb1.shape
  obtain ⟨h1, h2⟩ := common_says ha2 hb2
  refine (common_ok w sa sb a.length b.length ca cb a b ha1 hb1 rfl rfl (by omega)).mono ?_
  rintro e w' ⟨v, rfl, h3, h4⟩
  exact ⟨v, _, rfl, ⟨h3.rsl h1.2.1, h1, by omega⟩, h4⟩
theorem others_ans (w : World) (va : Value) (a : List Rg) (p : Int → Prop) (K : Nat) (ha : Ans w va p K a) (hK : K ≤ 1000000) :
    Calls Try.prog 46 #[va] w fun e w' => ∃ v' r, e = .returned v' ∧ Ans w' v' (fun n => ¬ p n) (K + 1) r ∧ Below w.heap.size w w' := by
  obtain ⟨ha1, ha2, ha3⟩ := ha
  obtain ⟨h1, h2⟩ := others_says ha2
  refine (others_ok w va a ha1 (by omega)).mono ?_
  rintro e w' ⟨v, rfl, h3, h4⟩
  exact ⟨v, _, rfl, ⟨h3.rsl h1.2.1, h1, by omega⟩, h4⟩
theorem Ans.below {w w' : World} {v : Value} {p : Int → Prop} {K : Nat} {r : List Rg} (h : Ans w v p K r) (hb : Below w.heap.size w w') : Ans w' v p K r := ⟨h.1.below hb, h.2⟩
set_option maxHeartbeats 1000000 in
theorem Meet_ok (w : World) (va vb : Value) (a b : List Rg) (ha : RSl w va a) (hb : RSl w vb b) (hla : a.length ≤ 100000) (hlb : b.length ≤ 100000) :
    Calls Try.prog 26 #[va, vb] w fun e w' => ∃ v' r, e = .returned v' ∧ Ans w' v' (fun n => mem a n ∧ mem b n) (a.length + b.length) r ∧ Below w.heap.size w w' := by
  obtain ⟨sa, ca, rfl⟩ := ha.shape
  obtain ⟨sb, cb, rfl⟩ := hb.shape
  have HB := Lib.hid hb
  have HC := Lib.hid (norm_one w _ a ha hla)
  have HK := Lib.hid (show a.length + b.length ≤ 1000000 by omega)
  have HLB := Lib.hid hlb
  clear ha hb hla hlb
  go_enter Try.func26, Try.ntmps26
  go_wp2_with fail
  refine HC.out.mono ?_
  rintro e w1 ⟨v1, r1, rfl, h1, hb1⟩
  have HA1 := Lib.hid h1
  have HB1 := Lib.hid hb1
  have HC2 := Lib.hid (norm_one w1 _ b (HB.out.below hb1) HLB.out)
  clear h1 hb1 HC HB
  go_wp2_with fail
  refine HC2.out.mono ?_
  rintro e w2 ⟨v2, r2, rfl, h1, hb1⟩
  have HB2 := Lib.hid (HB1.out.trans (hb1.mono HB1.out.size))
  have HC3 := Lib.hid (common_ans w2 v1 v2 r1 r2 _ _ _ _ (HA1.out.below hb1) h1 HK.out)
  clear h1 hb1 HC2 HA1 HB1
  go_wp2_with fail
  refine HC3.out.mono ?_
  rintro e w3 ⟨v3, r3, rfl, h1, hb1⟩
  have HA3 := Lib.hid h1
  have HB3 := Lib.hid (HB2.out.trans (hb1.mono HB2.out.size))
  clear h1 hb1 HC3 HB2
  go_wp2_with fail
  go_ret
  exact ⟨_, r3, rfl, HA3.out, HB3.out⟩
set_option maxHeartbeats 1000000 in
theorem Minus_ok (w : World) (va vb : Value) (a b : List Rg) (ha : RSl w va a) (hb : RSl w vb b) (hla : a.length ≤ 100000) (hlb : b.length ≤ 100000) :
    Calls Try.prog 27 #[va, vb] w fun e w' => ∃ v' r, e = .returned v' ∧ Ans w' v' (fun n => mem a n ∧ ¬ mem b n) (a.length + (b.length + 1)) r ∧ Below w.heap.size w w' := by
  obtain ⟨sa, ca, rfl⟩ := ha.shape
  obtain ⟨sb, cb, rfl⟩ := hb.shape
  have HB := Lib.hid hb
  have HC := Lib.hid (norm_one w _ a ha hla)
  have HK := Lib.hid (show a.length + (b.length + 1) ≤ 1000000 ∧ b.length ≤ 1000000 by omega)
  have HLB := Lib.hid hlb
  clear ha hb hla hlb
  go_enter Try.func27, Try.ntmps27
  go_wp2_with fail
  refine HC.out.mono ?_
  rintro e w1 ⟨v1, r1, rfl, h1, hb1⟩
  have HA1 := Lib.hid h1
  have HB1 := Lib.hid hb1
  have HC2 := Lib.hid (norm_one w1 _ b (HB.out.below hb1) HLB.out)
  clear h1 hb1 HC HB
  go_wp2_with fail
  refine HC2.out.mono ?_
  rintro e w2 ⟨v2, r2, rfl, h1, hb1⟩
  have HB2 := Lib.hid (HB1.out.trans (hb1.mono HB1.out.size))
  have HA2 := Lib.hid (HA1.out.below hb1)
  have HC3 := Lib.hid (others_ans w2 v2 r2 _ _ h1 HK.out.2)
  clear h1 hb1 HC2 HA1 HB1
  go_wp2_with fail
  refine HC3.out.mono ?_
  rintro e w3 ⟨v3, r3, rfl, h1, hb1⟩
  have HB3 := Lib.hid (HB2.out.trans (hb1.mono HB2.out.size))
  have HC4 := Lib.hid (common_ans w3 v1 v3 r1 r3 _ _ _ _ (HA2.out.below hb1) h1 HK.out.1)
  clear h1 hb1 HC3 HA2 HB2
  go_wp2_with fail
  refine HC4.out.mono ?_
  rintro e w4 ⟨v4, r4, rfl, h1, hb1⟩
  have HA4 := Lib.hid h1
  have HB4 := Lib.hid (HB3.out.trans (hb1.mono HB3.out.size))
  clear h1 hb1 HC4 HB3
  go_wp2_with fail
  go_ret
  exact ⟨_, r4, rfl, HA4.out, HB4.out⟩
/-- a literal of ranges -/
theorem rsl_lit (w : World) (l : List Rg) (hb : Bd l) (cs : Array Value) (hc : (rcells l).toArray = cs) (n : Nat) (hn : n = l.length) : RSl (w.alloc (.cells cs 51)) (.slice (some ⟨w.heap.size, 0, none⟩) n n) l := by
  subst hc
  subst hn
  have hrow : Row (w.alloc (.cells (rcells l).toArray 51)) w.heap.size l.length l := ⟨[], by rw [List.append_nil]; exact heap_alloc_new w _, by rw [List.append_nil, rcells_length]⟩
  refine ⟨hb, .inl ⟨w.heap.size, 0, l.length, rfl, Nat.le_refl _, fun i hi => ?_⟩⟩
  have := hrow.cell i hi
  rw [Nat.zero_add]
  exact this
def wholeL : List Rg := [(-9223372036854775808, 9223372036854775807)]
theorem wholeL_bd : Bd wholeL := by simp [wholeL, Bd, I64]
theorem wholeL_says : Says wholeL (fun _ => True) := ⟨rgt_one.2 (by simp), wholeL_bd, fun n hn => by unfold I64 at hn; unfold wholeL; rw [mem_one]; simp only; exact ⟨fun _ => trivial, fun _ => hn⟩⟩
set_option maxHeartbeats 1000000 in
theorem Whole_ok (w : World) : Calls Try.prog 28 #[] w fun e w' => ∃ v', e = .returned v' ∧ RSl w' v' wholeL ∧ Below w.heap.size w w' := by
  have HR := Lib.hid (rsl_lit w wholeL wholeL_bd #[.int .i64 (-9223372036854775808), .int .i64 9223372036854775807] rfl 1 rfl)
  have HB := Lib.hid ((Below.refl w.heap.size w).alloc (Nat.le_refl _) (.cells #[.int .i64 (-9223372036854775808), .int .i64 9223372036854775807] 51))
  go_enter Try.func28, Try.ntmps28
  go_wp2_with fail
  go_ret
  exact ⟨_, rfl, HR.out, HB.out⟩
end Go.Proofs.Ytfnpjdglfaaegaa
