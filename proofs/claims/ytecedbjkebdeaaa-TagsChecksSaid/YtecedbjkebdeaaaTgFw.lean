/-
  The document's count 'Few'; how wide what is few is.
-/
import Derived.Test.YtecedbjkebdeaaaTgO
import Derived.Test.YtecedbjkebdeaaaShF2
namespace Go.Proofs.Ytecedbjkebdeaaa
open Go.RowKit
set_option linter.unusedVariables false
set_option linter.unusedSimpArgs false
set_option maxRecDepth 100000

set_option maxHeartbeats 4000000 in
theorem Few_ok (t : TT) (B : Nat) (x : Int) (w : World) (ht : TIn B w t) (hB : B ≤ w.heap.size) (hx1 : -1152921504606846976 ≤ x) (hx2 : x ≤ 1152921504606846976) :
    Calls Try.prog 9 #[.agg t.cells.toArray, .int .i64 x] w fun e w' => e = .returned (.bool (decide (0 ≤ t.few x))) ∧ Below w.heap.size w w' := by
  have HONE := Lib.hid (one_tcells ht)
  have HX := Lib.hid (Bx.new w t.cells.toArray 35)
  have HB0 := Lib.hid ((Below.refl w.heap.size w).alloc (Nat.le_refl _) (.cells t.cells.toArray 35))
  have HC := Lib.hid (few_ok t B x _ (ht.below (HB0.out.mono hB) (Nat.le_refl _)) (Nat.le_trans hB HB0.out.size) hx1 hx2)
  obtain ⟨z, hz⟩ : ∃ z, t.few x = z := ⟨_, rfl⟩
  rw [hz] at HC ⊢
  obtain ⟨b, hb⟩ : ∃ b, decide (0 ≤ z) = b := ⟨_, rfl⟩
  rw [hb]
  clear ht hB hz hx1 hx2
  go_enter Try.func9, Try.ntmps9
  go_wp2_with (refine wpList_load_mid rfl 35 (.tmp 2) rfl w.heap.size 0 rfl t.cells _ HX.out.range Try.underlying35 rfl (by rw [info_T, HONE.out.1]) ?_)
  refine HC.out.mono ?_
  rintro e w1 ⟨rfl, hb1⟩
  have HB1 := Lib.hid (HB0.out.trans (hb1.mono HB0.out.size))
  clear hb1
  go_wp2_with fail
  go_ret
  exact ⟨rfl, HB1.out⟩
theorem fewN_sum {g : Nat → Int → Int} {s : Nat → Nat} : ∀ {n : Nat}, (∀ i, i < n → ∀ y, 0 ≤ y → 0 ≤ g i y → (s i : Int) ≤ y - g i y) → ∀ {x : Int}, 0 ≤ fewN g n x → 0 ≤ x ∧ (sumW s n : Int) ≤ x - fewN g n x
  | 0, _, x, h => ⟨h, by simp only [fewN, sumW]; omega⟩
  | n + 1, hg, x, h => by
    simp only [fewN] at h ⊢
    by_cases h0 : 0 ≤ fewN g n x
    · have ih := fewN_sum (n := n) (fun i hi => hg i (by omega)) h0
      rw [if_pos h0] at h ⊢
      have h1 := hg n (by omega) _ h0 h
      refine ⟨ih.1, ?_⟩
      show ((sumW s n + s n : Nat) : Int) ≤ _
      omega
    · rw [if_neg h0] at h
      exact absurd h h0
theorem few_sz {B : Nat} {W : World} : ∀ (t : TT) (x : Int), TIn B W t → 0 ≤ t.few x → (t.sz : Int) ≤ x - t.few x
  | .nil, x, h, _ => h.elim
  | .mk kind name con ext fr nm mo pa pt ad at_ ea en ec et, x, h, h0 => by
    obtain ⟨⟨_, _, hcon, _, hnm, hmo⟩, ⟨_, hp⟩, ⟨_, ha⟩, ⟨_, he⟩⟩ := h
    simp only [TT.few] at h0 ⊢
    have hP : ∀ i, i < pa.n → ∀ y, 0 ≤ y → 0 ≤ (fun i y => (pt i).few ((pa.f i).d.fewD (y - 1))) i y → ((pt i).sz : Int) ≤ y - (fun i y => (pt i).few ((pa.f i).d.fewD (y - 1))) i y := fun i hi y hy h0 => by
      have a := DL.fewD_bounds (hp i hi).1.2 (y - 1)
      have b := few_sz (pt i) _ (hp i hi).2 h0
      show ((pt i).sz : Int) ≤ y - (pt i).few ((pa.f i).d.fewD (y - 1))
      omega
    have hA : ∀ i, i < ad.n → ∀ y, 0 ≤ y → 0 ≤ (fun i y => (at_ i).few ((ad.f i).d.fewD (y - 1))) i y → ((at_ i).sz : Int) ≤ y - (fun i y => (at_ i).few ((ad.f i).d.fewD (y - 1))) i y := fun i hi y hy h0 => by
      have a := DL.fewD_bounds (ha i hi).1.2 (y - 1)
      have b := few_sz (at_ i) _ (ha i hi).2 h0
      show ((at_ i).sz : Int) ≤ y - (at_ i).few ((ad.f i).d.fewD (y - 1))
      omega
    have hE : ∀ i, i < en → ∀ y, 0 ≤ y → 0 ≤ (fun i y => (et i).few y) i y → ((et i).sz : Int) ≤ y - (fun i y => (et i).few y) i y := fun i hi y hy h0 => few_sz (et i) y (he i hi) h0
    have e3 := fewN_sum hE h0
    have e2 := fewN_sum hA e3.1
    have e1 := fewN_sum hP e2.1
    have c1 := CT.few_bounds con (x - 1 - nm.n - mo.n)
    show ((1 + (sumW (fun i => (pt i).sz) pa.n + sumW (fun i => (at_ i).sz) ad.n + sumW (fun i => (et i).sz) en) : Nat) : Int) ≤ _
    have := e3.2
    have := e2.2
    have := e1.2
    omega
theorem sumW_le {f g : Nat → Nat} : ∀ {n : Nat}, (∀ i, i < n → f i ≤ g i) → sumW f n ≤ sumW g n
  | 0, _ => Nat.le_refl _
  | n + 1, h => by
    have := sumW_le (n := n) (fun i hi => h i (by omega))
    have := h n (by omega)
    show sumW f n + f n ≤ sumW g n + g n
    omega
theorem TT.wid_le : ∀ t : TT, t.wid ≤ t.sz
  | .nil => Nat.le_refl _
  | .mk kind name con ext fr nm mo pa pt ad at_ ea en ec et => by
    have h1 := sumW_le (n := pa.n) (fun i _ => TT.wid_le (pt i))
    have h2 := sumW_le (n := ad.n) (fun i _ => TT.wid_le (at_ i))
    show 1 + (sumW (fun i => (pt i).wid) pa.n + sumW (fun i => (at_ i).wid) ad.n) ≤ 1 + (sumW (fun i => (pt i).sz) pa.n + sumW (fun i => (at_ i).sz) ad.n + sumW (fun i => (et i).sz) en)
    omega
/-- what is few is small -/
theorem few_small {B : Nat} {W : World} {t : TT} {x : Int} (h : TIn B W t) (h0 : 0 ≤ t.few x) (hx : x ≤ 1000) : t.sz ≤ 1000 ∧ t.wid ≤ 1000 := by
  have h1 := few_sz t x h h0
  have h2 := t.wid_le
  omega
end Go.Proofs.Ytecedbjkebdeaaa
