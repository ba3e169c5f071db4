/-
  Between two cuts a constraint lets in all or nothing; the pieces that the document asks. Nothing of the program.
-/
import Derived.Test.YtfnpjdglfaaegaaBdE
import Derived.Test.YtfnpjdglfaaegaaBdX
namespace Go.Proofs.Ytfnpjdglfaaegaa
open Go.RowKit Go.Shelf
set_option linter.unusedVariables false
set_option linter.unusedSimpArgs false
set_option maxRecDepth 100000

theorem adm_const : ∀ (c : CT) (k : Nat) (x y : Int), I64 x → I64 y → x ≤ y → (∀ z ∈ cutsC c k, ¬ (x < z ∧ z ≤ y)) → adm c k x = adm c k y
  | .nil, _, _, _, _, _, _, _ => by simp [adm]
  | .mk op lo hi low high a n cap ch, 0, x, y, _, _, _, _ => by simp [adm_zero]
  | .mk op lo hi low high a n cap ch, k + 1, x, y, hx, hy, hxy, h => by
    have hc : ∀ i, i < n → adm (ch i) k x = adm (ch i) k y := fun i hi => adm_const (ch i) k x y hx hy hxy fun z hz => h z (List.mem_append_right _ (flatN_mem.2 ⟨i, hi, hz⟩))
    have e1 : anyN (fun i => adm (ch i) k x) n = anyN (fun i => adm (ch i) k y) n := anyN_congr hc
    have e2 : allN (fun i => adm (ch i) k x) n = allN (fun i => adm (ch i) k y) n := allN_congr hc
    have e3 : allN (fun i => adm (ch i) k x == decide (i = 0)) n = allN (fun i => adm (ch i) k y == decide (i = 0)) n := allN_congr (fun i hi => by rw [hc i hi])
    by_cases h1 : op = 1
    · subst h1
      rw [adm_span, adm_span]
      have hl : (low || decide (lo ≤ x)) = (low || decide (lo ≤ y)) := by
        cases low with
        | true => rfl
        | false =>
          have := h lo (List.mem_append_left _ (by unfold cutP; simp))
          simp only [Bool.false_or, decide_eq_decide]
          omega
      have hh : (high || decide (x ≤ hi)) = (high || decide (y ≤ hi)) := by
        cases high with
        | true => rfl
        | false =>
          simp only [Bool.false_or, decide_eq_decide]
          unfold I64 at hx hy
          by_cases hm : hi < 9223372036854775807
          · have := h (hi + 1) (List.mem_append_left _ (by unfold cutP; simp [hm]))
            omega
          · omega
      rw [hl, hh]
    · simp only [adm, if_neg h1]
      rw [e1, e2, e3]
theorem cutsC_bd {B : Nat} {W : World} : ∀ (c : CT) (k : Nat), CIn B W c → ∀ z ∈ cutsC c k, I64 z
  | .nil, _, h, _, _ => h.elim
  | .mk op lo hi low high a n cap ch, k, h, z, hz => by
    unfold cutsC at hz
    rcases List.mem_append.1 hz with hz | hz
    · unfold cutP at hz
      have h2 := h.1
      unfold I64 at *
      rcases List.mem_append.1 hz with hz | hz
      · split at hz
        · simp at hz; omega
        · simp at hz
      · split at hz
        · simp at hz; omega
        · simp at hz
    · cases k with
      | zero => simp at hz
      | succ k =>
        obtain ⟨i, hi, hz⟩ := flatN_mem.1 hz
        exact cutsC_bd (ch i) k (h.2.2 i hi) z hz

/-! ### the end of a piece -/
def KInv (C : List Int) (x : Int) (k : Nat) (h : Int) : Prop := x ≤ h ∧ h ≤ 9223372036854775807 ∧ (∀ j, j < k → x < C[j]! → h < C[j]!) ∧ (h = 9223372036854775807 ∨ ∃ j, j < C.length ∧ C[j]! = h + 1)
theorem KInv.start (C : List Int) {x : Int} (hx : I64 x) : KInv C x 0 9223372036854775807 := ⟨hx.2, Int.le_refl _, fun j hj => absurd hj (Nat.not_lt_zero _), .inl rfl⟩
theorem KInv.yes {C : List Int} {x : Int} {k : Nat} {h z : Int} (hi : KInv C x k h) (hk : k < C.length) (hz : C[k]! = z) (h1 : x < z) (h2 : z - 1 < h) : KInv C x (k + 1) (z - 1) := by
  obtain ⟨a1, a2, a3, a4⟩ := hi
  refine ⟨by omega, by omega, fun j hj hx => ?_, .inr ⟨k, hk, by omega⟩⟩
  rcases Nat.lt_or_ge j k with hj2 | hj2
  · have := a3 j hj2 hx
    omega
  · obtain rfl : j = k := by omega
    omega
theorem KInv.no {C : List Int} {x : Int} {k : Nat} {h z : Int} (hi : KInv C x k h) (hz : C[k]! = z) (h1 : x < z → h < z) : KInv C x (k + 1) h := by
  obtain ⟨a1, a2, a3, a4⟩ := hi
  refine ⟨a1, a2, fun j hj hx => ?_, a4⟩
  rcases Nat.lt_or_ge j k with hj2 | hj2
  · exact a3 j hj2 hx
  · obtain rfl : j = k := by omega
    rw [hz] at hx ⊢
    exact h1 hx
/-! ### the pieces -/
def PInv (C : List Int) (p : Int → Bool) (i : Nat) (acc : List Rg) : Prop := Bd acc ∧ acc.length ≤ i ∧ (∀ n, mem acc n → p n = true) ∧ ∀ j, j < i → p C[j]! = true → ∀ n, I64 n → C[j]! ≤ n → (∀ k, k < C.length → C[j]! < C[k]! → n < C[k]!) → mem acc n
theorem PInv.start (C : List Int) (p : Int → Bool) : PInv C p 0 [] := ⟨Bd.nil, Nat.le_refl _, fun n h => absurd h mem_nil, fun j hj => absurd hj (Nat.not_lt_zero _)⟩
theorem PInv.no {C : List Int} {p : Int → Bool} {i : Nat} {acc : List Rg} {x : Int} (h : PInv C p i acc) (hx : C[i]! = x) (hp : p x = false) : PInv C p (i + 1) acc := by
  obtain ⟨a1, a2, a3, a4⟩ := h
  refine ⟨a1, by omega, a3, fun j hj hpj => ?_⟩
  rcases Nat.lt_or_ge j i with h2 | h2
  · exact a4 j h2 hpj
  · obtain rfl : j = i := by omega
    rw [hx, hp] at hpj
    cases hpj
theorem PInv.yes {C : List Int} {p : Int → Bool} {i : Nat} {acc : List Rg} {x e : Int} (h : PInv C p i acc) (hx : C[i]! = x) (hxi : I64 x) (hp : p x = true) (hk : KInv C x C.length e)
    (hc : ∀ x y, I64 x → I64 y → x ≤ y → (∀ k, k < C.length → ¬ (x < C[k]! ∧ C[k]! ≤ y)) → p x = p y) : PInv C p (i + 1) (acc ++ [(x, e)]) := by
  obtain ⟨a1, a2, a3, a4⟩ := h
  obtain ⟨b1, b2, b3, b4⟩ := hk
  have hei : I64 e := by unfold I64 at *; omega
  refine ⟨Bd.append.2 ⟨a1, Bd.cons.2 ⟨⟨hxi, hei⟩, Bd.nil⟩⟩, by simp; omega, fun n hn => ?_, fun j hj hpj n hn h1 h2 => ?_⟩
  · rcases mem_append.1 hn with h3 | h3
    · exact a3 n h3
    · have h4 := mem_one.1 h3
      simp only at h4
      rw [← hc x n hxi (by unfold I64 at *; omega) h4.1 (fun k hk h5 => by have := b3 k hk h5.1; omega)]
      exact hp
  · rcases Nat.lt_or_ge j i with h3 | h3
    · exact mem_append.2 (.inl (a4 j h3 hpj n hn h1 h2))
    · obtain rfl : j = i := by omega
      rw [hx] at h1 h2
      refine mem_append.2 (.inr (mem_one.2 ⟨h1, ?_⟩))
      show n ≤ e
      rcases b4 with h4 | ⟨k, hk, h4⟩
      · unfold I64 at hn; omega
      · have := h2 k hk (by omega)
        omega
theorem last_cut (n : Int) : ∀ (C : List Int), (∃ x ∈ C, x ≤ n) → ∃ x ∈ C, x ≤ n ∧ ∀ z ∈ C, z ≤ n → z ≤ x
  | [], h => by obtain ⟨x, hx, _⟩ := h; simp at hx
  | y :: C, h => by
    by_cases h1 : ∃ x ∈ C, x ≤ n
    · obtain ⟨x, hx, hn, hm⟩ := last_cut n C h1
      by_cases h2 : y ≤ n ∧ x < y
      · exact ⟨y, by simp, h2.1, fun z hz hzn => by
          rcases List.mem_cons.1 hz with rfl | hz
          · exact Int.le_refl _
          · have := hm z hz hzn; omega⟩
      · exact ⟨x, by simp [hx], hn, fun z hz hzn => by
          rcases List.mem_cons.1 hz with rfl | hz
          · omega
          · exact hm z hz hzn⟩
    · obtain ⟨x, hx, hn⟩ := h
      rcases List.mem_cons.1 hx with rfl | hx
      · exact ⟨x, by simp, hn, fun z hz hzn => by
          rcases List.mem_cons.1 hz with rfl | hz
          · exact Int.le_refl _
          · exact absurd ⟨z, hz, hzn⟩ h1⟩
      · exact absurd ⟨x, hx, hn⟩ h1
theorem PInv.done {C : List Int} {p : Int → Bool} {acc : List Rg} (h : PInv C p C.length acc) (hlow : (-9223372036854775808 : Int) ∈ C) (hb : ∀ z ∈ C, I64 z)
    (hc : ∀ x y, I64 x → I64 y → x ≤ y → (∀ k, k < C.length → ¬ (x < C[k]! ∧ C[k]! ≤ y)) → p x = p y) (n : Int) (hn : I64 n) : mem acc n ↔ p n = true := by
  refine ⟨h.2.2.1 n, fun hp => ?_⟩
  obtain ⟨x, hx, hxn, hm⟩ := last_cut n C ⟨_, hlow, by unfold I64 at hn; exact hn.1⟩
  obtain ⟨j, hj, rfl⟩ := List.mem_iff_getElem.1 hx
  have ej : C[j]! = C[j] := getElem!_pos C j hj
  have hlt : ∀ k, k < C.length → C[j]! < C[k]! → n < C[k]! := fun k hk h1 => by
    have h2 := hm C[k] (List.getElem_mem hk)
    rw [ej, getElem!_pos C k hk] at h1
    rw [getElem!_pos C k hk]
    apply Classical.byContradiction
    intro h3
    have := h2 (by omega)
    omega
  refine h.2.2.2 j hj ?_ n hn (by rw [ej]; exact hxn) hlt
  rw [ej, hc C[j] n (hb _ hx) hn hxn (fun k hk h1 => by
    have := hlt k hk (by rw [ej]; exact h1.1)
    omega)]
  exact hp
/-- what the document's cuts tell -/
theorem cuts_const {B : Nat} {W : World} (c : CT) (hc : CIn B W c) : ∀ x y, I64 x → I64 y → x ≤ y → (∀ k, k < ((-9223372036854775808 : Int) :: cutsC c 40).length → ¬ (x < ((-9223372036854775808 : Int) :: cutsC c 40)[k]! ∧ ((-9223372036854775808 : Int) :: cutsC c 40)[k]! ≤ y)) → adm c 40 x = adm c 40 y := fun x y hx hy hxy h =>
  adm_const c 40 x y hx hy hxy fun z hz h1 => by
    obtain ⟨j, hj, e⟩ := List.mem_iff_getElem.1 hz
    refine h (j + 1) (by simp; omega) ?_
    rw [getElem!_pos _ (j + 1) (by simp; omega)]
    simp only [List.getElem_cons_succ]
    rw [e]
    exact h1
end Go.Proofs.Ytfnpjdglfaaegaa
