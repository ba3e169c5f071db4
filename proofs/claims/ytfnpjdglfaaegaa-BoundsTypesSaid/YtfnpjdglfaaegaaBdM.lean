/-
  Which numbers a constraint lets in, and how many pieces it has: nothing of the program here.
-/
import Derived.Test.YtfnpjdglfaaegaaSpM
import Derived.Test.YtfnpjdglfaaegaaShFew
namespace Go.Proofs.Ytfnpjdglfaaegaa
open Go.RowKit
set_option linter.unusedVariables false
set_option linter.unusedSimpArgs false
set_option maxRecDepth 100000

/-! ### one of the first n -/
def anyN (f : Nat → Bool) (n : Nat) : Bool := !allN (fun i => !f i) n
theorem anyN_iff {f : Nat → Bool} {n : Nat} : anyN f n = true ↔ ∃ i, i < n ∧ f i = true := by
  unfold anyN
  rw [Bool.not_eq_true', Bool.eq_false_iff, Ne, allN_iff]
  constructor
  · intro h
    apply Classical.byContradiction
    intro h2
    refine h fun i hi => ?_
    cases hf : f i with
    | true => exact absurd ⟨i, hi, hf⟩ h2
    | false => rfl
  · rintro ⟨i, hi, hf⟩ h
    have := h i hi
    rw [hf] at this
    cases this
theorem anyN_yes {f : Nat → Bool} {i n : Nat} (hi : i < n) (hf : f i = true) : anyN f n = true := anyN_iff.2 ⟨i, hi, hf⟩
theorem anyN_no {f : Nat → Bool} {n : Nat} (h : ∀ i, i < n → f i = false) : anyN f n = false := by
  cases hb : anyN f n with
  | false => rfl
  | true =>
    obtain ⟨i, hi, hf⟩ := anyN_iff.1 hb
    rw [h i hi] at hf
    cases hf
theorem allN_yes {f : Nat → Bool} {n : Nat} (h : ∀ i, i < n → f i = true) : allN f n = true := allN_iff.2 h
/-- 'one of' or 'all of' the first n -/
def foldU (u : Bool) (f : Nat → Bool) (n : Nat) : Bool := if u then anyN f n else allN f n
def comb (u : Bool) (p q : Prop) : Prop := if u then p ∨ q else p ∧ q
theorem comb_congr (u : Bool) {p q p' q' : Prop} (h : p ↔ p') (h2 : q ↔ q') : comb u p q ↔ comb u p' q' := by
  unfold comb
  cases u <;> simp [h, h2]
theorem foldU_one (u : Bool) (f : Nat → Bool) : foldU u f 1 = f 0 := by
  unfold foldU anyN
  cases u <;> simp [allN]
theorem foldU_zero (u : Bool) (f : Nat → Bool) : foldU u f 0 = !u := by
  unfold foldU anyN
  cases u <;> simp [allN]
theorem foldU_split (u : Bool) (f : Nat → Bool) (h n : Nat) (hh : h ≤ n) : foldU u f n = true ↔ comb u (foldU u f h = true) (foldU u (fun i => f (h + i)) (n - h) = true) := by
  unfold foldU comb
  cases u with
  | true =>
    simp only [if_true]
    rw [anyN_iff, anyN_iff, anyN_iff]
    constructor
    · rintro ⟨i, hi, hf⟩
      rcases Nat.lt_or_ge i h with h1 | h1
      · exact .inl ⟨i, h1, hf⟩
      · exact .inr ⟨i - h, by omega, by rw [show h + (i - h) = i by omega]; exact hf⟩
    · rintro (⟨i, hi, hf⟩ | ⟨i, hi, hf⟩)
      · exact ⟨i, by omega, hf⟩
      · exact ⟨h + i, by omega, hf⟩
  | false =>
    simp only [if_neg (by decide : ¬ (false = true))]
    rw [allN_iff, allN_iff, allN_iff]
    constructor
    · exact fun h1 => ⟨fun i hi => h1 i (by omega), fun i hi => h1 (h + i) (by omega)⟩
    · rintro ⟨h1, h2⟩ i hi
      rcases Nat.lt_or_ge i h with h3 | h3
      · exact h1 i h3
      · have := h2 (i - h) (by omega)
        rwa [show h + (i - h) = i by omega] at this

/-! ### which numbers are let in, so many levels deep -/
def adm : CT → Nat → Int → Bool
  | .nil, _, _ => false
  | .mk op lo hi low high _ n _ ch, k, x =>
    match k with
    | 0 => false
    | k + 1 =>
      if op = 0 then true
      else if op = 1 then (low || decide (lo ≤ x)) && (high || decide (x ≤ hi))
      else if op = 2 then anyN (fun i => adm (ch i) k x) n
      else if op = 3 then allN (fun i => adm (ch i) k x) n
      else if op = 4 then allN (fun i => adm (ch i) k x == decide (i = 0)) n
      else false
section
variable (op lo hi : Int) (low high : Bool) (a : Option Addr) (n cap : Nat) (ch : Nat → CT) (k : Nat) (x : Int)
theorem adm_zero (c : CT) : adm c 0 x = false := by cases c <;> rfl
theorem adm_all : adm (.mk 0 lo hi low high a n cap ch) (k + 1) x = true := rfl
theorem adm_span : adm (.mk 1 lo hi low high a n cap ch) (k + 1) x = ((low || decide (lo ≤ x)) && (high || decide (x ≤ hi))) := rfl
theorem adm_union : adm (.mk 2 lo hi low high a n cap ch) (k + 1) x = anyN (fun i => adm (ch i) k x) n := rfl
theorem adm_meet : adm (.mk 3 lo hi low high a n cap ch) (k + 1) x = allN (fun i => adm (ch i) k x) n := rfl
theorem adm_except : adm (.mk 4 lo hi low high a n cap ch) (k + 1) x = allN (fun i => adm (ch i) k x == decide (i = 0)) n := rfl
theorem adm_other (h0 : op ≠ 0) (h1 : op ≠ 1) (h2 : op ≠ 2) (h3 : op ≠ 3) (h4 : op ≠ 4) : adm (.mk op lo hi low high a n cap ch) (k + 1) x = false := by
  simp only [adm, if_neg h0, if_neg h1, if_neg h2, if_neg h3, if_neg h4]
end
theorem except_iff (f : Nat → Bool) (n : Nat) : allN (fun i => f i == decide (i = 0)) n = true ↔ foldU false f (min 1 n) = true ∧ ¬ foldU true (fun i => f (min 1 n + i)) (n - min 1 n) = true := by
  rw [allN_iff]
  unfold foldU
  simp only [if_true, if_neg (by decide : ¬ (false = true))]
  rw [allN_iff, anyN_iff]
  constructor
  · intro h
    refine ⟨fun i hi => ?_, ?_⟩
    · have := h i (by omega)
      obtain rfl : i = 0 := by omega
      simpa using this
    · rintro ⟨i, hi, hf⟩
      have := h (min 1 n + i) (by omega)
      rw [hf, decide_eq_false (by omega)] at this
      cases this
  · rintro ⟨h1, h2⟩ i hi
    rcases Nat.eq_zero_or_pos i with rfl | h0
    · have := h1 0 (by omega)
      rw [this]
      rfl
    · rw [decide_eq_false (by omega)]
      cases hf : f i with
      | false => rfl
      | true => exact absurd ⟨i - min 1 n, by omega, by rw [show min 1 n + (i - min 1 n) = i by omega]; exact hf⟩ h2

/-! ### how many pieces -/
def sumN (f : Nat → Nat) : Nat → Nat
  | 0 => 0
  | n + 1 => sumN f n + f n
theorem sumN_split (f : Nat → Nat) (h : Nat) : ∀ m, sumN f (h + m) = sumN f h + sumN (fun i => f (h + i)) m
  | 0 => rfl
  | m + 1 => by
    show sumN f (h + m) + f (h + m) = _
    rw [sumN_split f h m]
    simp only [sumN]
    omega
theorem sumN_cut (f : Nat → Nat) (h n : Nat) (hh : h ≤ n) : sumN f n = sumN f h + sumN (fun i => f (h + i)) (n - h) := by
  rw [← sumN_split, show h + (n - h) = n by omega]
theorem sumN_le (f : Nat → Nat) : ∀ {n i : Nat}, i < n → f i ≤ sumN f n
  | 0, _, h => absurd h (Nat.not_lt_zero _)
  | n + 1, i, h => by
    simp only [sumN]
    rcases Nat.lt_or_ge i n with h1 | h1
    · have := sumN_le f h1
      omega
    · obtain rfl : i = n := by omega
      omega
theorem sumN_mono (f : Nat → Nat) {h n : Nat} (hh : h ≤ n) : sumN f h ≤ sumN f n := by
  rw [sumN_cut f h n hh]
  omega
theorem sumN_one (f : Nat → Nat) : sumN f 1 = f 0 := by simp [sumN]
def CT.sz : CT → Nat
  | .nil => 0
  | .mk _ _ _ _ _ _ n _ ch => 1 + sumN (fun i => (ch i).sz) n
theorem CT.sz_mk (op lo hi : Int) (low high : Bool) (a : Option Addr) (n cap : Nat) (ch : Nat → CT) : (CT.mk op lo hi low high a n cap ch).sz = 1 + sumN (fun i => (ch i).sz) n := rfl
theorem fewN_sum {g : Nat → Int → Int} {s : Nat → Nat} : ∀ {n : Nat}, (∀ i, i < n → ∀ y, 0 ≤ g i y → g i y = y - (s i : Nat)) → ∀ x, 0 ≤ fewN g n x → fewN g n x = x - (sumN s n : Nat)
  | 0, _, x, _ => by simp [fewN, sumN]
  | n + 1, hg, x, h => by
    simp only [fewN] at h ⊢
    simp only [sumN]
    by_cases h0 : 0 ≤ fewN g n x
    · rw [if_pos h0] at h ⊢
      have h1 := fewN_sum (fun i hi => hg i (by omega)) x h0
      have h2 := hg n (by omega) _ h
      omega
    · rw [if_neg h0] at h
      exact absurd h h0
theorem CT.few_sz : ∀ (c : CT) (x : Int), 0 ≤ c.few x → c.few x = x - (c.sz : Nat)
  | .nil, x, _ => by simp [CT.few, CT.sz]
  | .mk _ _ _ _ _ _ n _ ch, x, h => by
    simp only [CT.few] at h ⊢
    have := fewN_sum (g := fun i y => (ch i).few y) (s := fun i => (ch i).sz) (fun i _ y hy => CT.few_sz (ch i) y hy) (x - 1) h
    simp only [CT.sz]
    omega
theorem CT.sz_le {c : CT} {x : Int} (h : decide (0 ≤ c.few x) = true) : (c.sz : Int) ≤ x := by
  have h1 := of_decide_eq_true h
  have h2 := CT.few_sz c x h1
  omega
end Go.Proofs.Ytfnpjdglfaaegaa
