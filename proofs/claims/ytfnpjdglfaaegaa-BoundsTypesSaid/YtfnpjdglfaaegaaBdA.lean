/-
  Package spans: Meet, Minus and Whole give rows of the caller's own.
-/
import Derived.Test.YtfnpjdglfaaegaaSpA
namespace Go.Proofs.Ytfnpjdglfaaegaa
open Go.RowKit Go.Shelf
set_option linter.unusedVariables false
set_option linter.unusedSimpArgs false
set_option maxRecDepth 100000

def AnsO (base : Nat) (w : World) (v : Value) (p : Int → Prop) (K : Nat) (r : List Rg) : Prop := OwnR base w v r ∧ Says r p ∧ r.length ≤ K
theorem AnsO.ans {base : Nat} {w : World} {v : Value} {p : Int → Prop} {K : Nat} {r : List Rg} (h : AnsO base w v p K r) : Ans w v p K r := ⟨h.1.rsl h.2.1.2.1, h.2⟩
theorem own_lit (w : World) (l : List Rg) (hl : l.length ≤ 1000) (cs : Array Value) (hc : (rcells l).toArray = cs) (n : Nat) (hn : n = l.length) : OwnR w.heap.size (w.alloc (.cells cs 51)) (.slice (some ⟨w.heap.size, 0, none⟩) n n) l := by
  subst hc
  subst hn
  exact ⟨rcells_length l, .inr ⟨w.heap.size, l.length, _, rfl, Nat.le_refl _, heap_alloc_new w _, Nat.le_refl _, by unfold maxLen; omega, by simp [rcells_length], by simp [← rcells_length]⟩⟩
/-- 'common' of two answers: a row of one's own -/
theorem common_own (w : World) (va vb : Value) (a b : List Rg) (p q : Int → Prop) (K L : Nat) (ha : Ans w va p K a) (hb : Ans w vb q L b) (hK : K + L ≤ 1000000) :
    Calls Try.prog 45 #[va, vb] w fun e w' => ∃ v' r, e = .returned v' ∧ AnsO w.heap.size w' v' (fun n => p n ∧ q n) (K + L) r ∧ Below w.heap.size w w' := by
  obtain ⟨ha1, ha2, ha3⟩ := ha
  obtain ⟨hb1, hb2, hb3⟩ := hb
  obtain ⟨sa, ca, rfl⟩ := ha1.shape
  obtain ⟨sb, cb, rfl⟩ := hb1.shape
  obtain ⟨h1, h2⟩ := common_says ha2 hb2
  refine (common_ok w sa sb a.length b.length ca cb a b ha1 hb1 rfl rfl (by omega)).mono ?_
  rintro e w' ⟨v, rfl, h3, h4⟩
  exact ⟨v, _, rfl, ⟨h3, h1, by omega⟩, h4⟩
set_option maxHeartbeats 1000000 in
theorem Meet_own (w : World) (va vb : Value) (a b : List Rg) (ha : RSl w va a) (hb : RSl w vb b) (hla : a.length ≤ 100000) (hlb : b.length ≤ 100000) :
    Calls Try.prog 26 #[va, vb] w fun e w' => ∃ v' r, e = .returned v' ∧ AnsO w.heap.size w' v' (fun n => mem a n ∧ mem b n) (a.length + b.length) r ∧ Below w.heap.size w w' := by
  obtain ⟨sa, ca, rfl⟩ := ha.shape
  obtain ⟨sb, cb, rfl⟩ := hb.shape
  have HB := Lib.hid hb
  have HC := Lib.hid (norm_one w _ a ha hla)
  have HK := Lib.hid (show a.length + b.length ≤ 1000000 by omega)
  have HLB := Lib.hid hlb
  clear ha hb hla hlb
  go_enter Try.func26, Try.ntmps26
  go_wp2_with fail
  refine HC.out.mono ?_
  rintro e w1 ⟨v1, r1, rfl, h1, hb1⟩
  have HA1 := Lib.hid h1
  have HB1 := Lib.hid hb1
  have HC2 := Lib.hid (norm_one w1 _ b (HB.out.below hb1) HLB.out)
  clear h1 hb1 HC HB
  go_wp2_with fail
  refine HC2.out.mono ?_
  rintro e w2 ⟨v2, r2, rfl, h1, hb1⟩
  have HB2 := Lib.hid (HB1.out.trans (hb1.mono HB1.out.size))
  have HC3 := Lib.hid (common_own w2 v1 v2 r1 r2 _ _ _ _ (HA1.out.below hb1) h1 HK.out)
  clear h1 hb1 HC2 HA1 HB1
  go_wp2_with fail
  refine HC3.out.mono ?_
  rintro e w3 ⟨v3, r3, rfl, h1, hb1⟩
  have HA3 := Lib.hid (show AnsO w.heap.size w3 v3 (fun n => mem a n ∧ mem b n) (a.length + b.length) r3 from ⟨h1.1.base HB2.out.size, h1.2⟩)
  have HB3 := Lib.hid (HB2.out.trans (hb1.mono HB2.out.size))
  clear h1 hb1 HC3 HB2
  go_wp2_with fail
  go_ret
  exact ⟨_, r3, rfl, HA3.out, HB3.out⟩
set_option maxHeartbeats 1000000 in
theorem Minus_own (w : World) (va vb : Value) (a b : List Rg) (ha : RSl w va a) (hb : RSl w vb b) (hla : a.length ≤ 100000) (hlb : b.length ≤ 100000) :
    Calls Try.prog 27 #[va, vb] w fun e w' => ∃ v' r, e = .returned v' ∧ AnsO w.heap.size w' v' (fun n => mem a n ∧ ¬ mem b n) (a.length + (b.length + 1)) r ∧ Below w.heap.size w w' := by
  obtain ⟨sa, ca, rfl⟩ := ha.shape
  obtain ⟨sb, cb, rfl⟩ := hb.shape
  have HB := Lib.hid hb
  have HC := Lib.hid (norm_one w _ a ha hla)
  have HK := Lib.hid (show a.length + (b.length + 1) ≤ 1000000 ∧ b.length ≤ 1000000 by omega)
  have HLB := Lib.hid hlb
  clear ha hb hla hlb
  go_enter Try.func27, Try.ntmps27
  go_wp2_with fail
  refine HC.out.mono ?_
  rintro e w1 ⟨v1, r1, rfl, h1, hb1⟩
  have HA1 := Lib.hid h1
  have HB1 := Lib.hid hb1
  have HC2 := Lib.hid (norm_one w1 _ b (HB.out.below hb1) HLB.out)
  clear h1 hb1 HC HB
  go_wp2_with fail
  refine HC2.out.mono ?_
  rintro e w2 ⟨v2, r2, rfl, h1, hb1⟩
  have HB2 := Lib.hid (HB1.out.trans (hb1.mono HB1.out.size))
  have HA2 := Lib.hid (HA1.out.below hb1)
  have HC3 := Lib.hid (others_ans w2 v2 r2 _ _ h1 HK.out.2)
  clear h1 hb1 HC2 HA1 HB1
  go_wp2_with fail
  refine HC3.out.mono ?_
  rintro e w3 ⟨v3, r3, rfl, h1, hb1⟩
  have HB3 := Lib.hid (HB2.out.trans (hb1.mono HB2.out.size))
  have HC4 := Lib.hid (common_own w3 v1 v3 r1 r3 _ _ _ _ (HA2.out.below hb1) h1 HK.out.1)
  clear h1 hb1 HC3 HA2 HB2
  go_wp2_with fail
  refine HC4.out.mono ?_
  rintro e w4 ⟨v4, r4, rfl, h1, hb1⟩
  have HA4 := Lib.hid (show AnsO w.heap.size w4 v4 (fun n => mem a n ∧ ¬ mem b n) (a.length + (b.length + 1)) r4 from ⟨h1.1.base HB3.out.size, h1.2⟩)
  have HB4 := Lib.hid (HB3.out.trans (hb1.mono HB3.out.size))
  clear h1 hb1 HC4 HB3
  go_wp2_with fail
  go_ret
  exact ⟨_, r4, rfl, HA4.out, HB4.out⟩
set_option maxHeartbeats 1000000 in
theorem Whole_own (w : World) : Calls Try.prog 28 #[] w fun e w' => ∃ v', e = .returned v' ∧ OwnR w.heap.size w' v' wholeL ∧ Below w.heap.size w w' := by
  have HR := Lib.hid (own_lit w wholeL (by simp [wholeL]) #[.int .i64 (-9223372036854775808), .int .i64 9223372036854775807] rfl 1 rfl)
  have HB := Lib.hid ((Below.refl w.heap.size w).alloc (Nat.le_refl _) (.cells #[.int .i64 (-9223372036854775808), .int .i64 9223372036854775807] 51))
  go_enter Try.func28, Try.ntmps28
  go_wp2_with fail
  go_ret
  exact ⟨_, rfl, HR.out, HB.out⟩
end Go.Proofs.Ytfnpjdglfaaegaa
