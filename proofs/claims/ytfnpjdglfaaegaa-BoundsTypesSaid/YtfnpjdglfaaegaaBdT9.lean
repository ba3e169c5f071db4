/-
  The document's count 'Few'; what few types have within.
-/
import Derived.Test.YtfnpjdglfaaegaaBdT4
import Derived.Test.YtfnpjdglfaaegaaBdX
import Derived.Test.YtfnpjdglfaaegaaShF2
namespace Go.Proofs.Ytfnpjdglfaaegaa
open Go.RowKit
set_option linter.unusedVariables false
set_option linter.unusedSimpArgs false
set_option maxRecDepth 100000

set_option maxHeartbeats 4000000 in
theorem Few_ok (t : TT) (B : Nat) (x : Int) (w : World) (ht : TIn B w t) (hB : B ≤ w.heap.size) (hx1 : -1152921504606846976 ≤ x) (hx2 : x ≤ 1152921504606846976) :
    Calls Try.prog 13 #[.agg t.cells.toArray, .int .i64 x] w fun e w' => e = .returned (.bool (decide (0 ≤ t.few x))) ∧ Below w.heap.size w w' := by
  have HONE := Lib.hid (one_tcells ht)
  have HX := Lib.hid (Bx.new w t.cells.toArray 35)
  have HB0 := Lib.hid ((Below.refl w.heap.size w).alloc (Nat.le_refl _) (.cells t.cells.toArray 35))
  have HC := Lib.hid (few_ok t B x _ (ht.below (HB0.out.mono hB) (Nat.le_refl _)) (Nat.le_trans hB HB0.out.size) hx1 hx2)
  obtain ⟨z, hz⟩ : ∃ z, t.few x = z := ⟨_, rfl⟩
  rw [hz] at HC ⊢
  obtain ⟨b, hb⟩ : ∃ b, decide (0 ≤ z) = b := ⟨_, rfl⟩
  rw [hb]
  clear ht hB hz hx1 hx2
  go_enter Try.func13, Try.ntmps13
  go_wp2_with (refine wpList_load_mid rfl 35 (.tmp 2) rfl w.heap.size 0 rfl t.cells _ HX.out.range Try.underlying35 rfl (by rw [info_T, HONE.out.1]) ?_)
  refine HC.out.mono ?_
  rintro e w1 ⟨rfl, hb1⟩
  have HB1 := Lib.hid (HB0.out.trans (hb1.mono HB0.out.size))
  clear hb1
  go_wp2_with fail
  go_ret
  exact ⟨rfl, HB1.out⟩
theorem fewN_zero {g : Nat → Int → Int} : ∀ {n : Nat} {x : Int}, 0 ≤ fewN g n x → 0 ≤ x
  | 0, x, h => h
  | n + 1, x, h => by
    simp only [fewN] at h
    by_cases h0 : 0 ≤ fewN g n x
    · exact fewN_zero h0
    · rw [if_neg h0] at h
      exact absurd h h0
theorem fewN_pos {g : Nat → Int → Int} : ∀ {n : Nat} {x : Int}, 0 ≤ fewN g n x → ∀ k, k < n → 0 ≤ fewN g k x ∧ 0 ≤ g k (fewN g k x)
  | 0, x, _, k, hk => absurd hk (Nat.not_lt_zero _)
  | n + 1, x, h, k, hk => by
    simp only [fewN] at h
    by_cases h0 : 0 ≤ fewN g n x
    · rw [if_pos h0] at h
      rcases Nat.lt_or_ge k n with h1 | h1
      · exact fewN_pos h0 k h1
      · obtain rfl : k = n := by omega
        exact ⟨h0, h⟩
    · rw [if_neg h0] at h
      exact absurd h h0
theorem fewN_le {g : Nat → Int → Int} {n : Nat} (hg : ∀ i, i < n → ∀ y, 0 ≤ y → g i y ≤ y) : ∀ k, k ≤ n → ∀ x, fewN g k x ≤ x
  | 0, _, x => Int.le_refl _
  | k + 1, hk, x => by
    have h := fewN_le hg k (by omega) x
    simp only [fewN]
    split
    · have := hg k (by omega) _ (by assumption)
      omega
    · exact h
theorem few_small {B : Nat} {W : World} : ∀ (t : TT) (x : Int), TIn B W t → x ≤ 100 → 0 ≤ t.few x → t.small
  | .nil, x, h, _, _ => h.elim
  | .mk kind name con ext fr nm mo pa pt ad at_ ea en ec et, x, h, hx, h0 => by
    obtain ⟨⟨_, _, hcon, _, hnm, hmo⟩, ⟨_, hp⟩, ⟨_, ha⟩, ⟨_, he⟩⟩ := h
    simp only [TT.few] at h0
    have e2 := fewN_zero h0
    have e1 := fewN_zero e2
    have e0 := fewN_zero e1
    have hP : ∀ i, i < pa.n → ∀ y, 0 ≤ y → (fun i y => (pt i).few ((pa.f i).d.fewD (y - 1))) i y ≤ y := fun i hi y hy => by
      have a := DL.fewD_bounds (hp i hi).1.2 (y - 1)
      have b := TT.few_bounds (pt i) (hp i hi).2 ((pa.f i).d.fewD (y - 1))
      show (pt i).few ((pa.f i).d.fewD (y - 1)) ≤ y
      rcases Int.lt_or_le ((pa.f i).d.fewD (y - 1)) 0 with c | c
      · have := b.2 c; omega
      · have := b.1 c; omega
    have hA : ∀ i, i < ad.n → ∀ y, 0 ≤ y → (fun i y => (at_ i).few ((ad.f i).d.fewD (y - 1))) i y ≤ y := fun i hi y hy => by
      have a := DL.fewD_bounds (ha i hi).1.2 (y - 1)
      have b := TT.few_bounds (at_ i) (ha i hi).2 ((ad.f i).d.fewD (y - 1))
      show (at_ i).few ((ad.f i).d.fewD (y - 1)) ≤ y
      rcases Int.lt_or_le ((ad.f i).d.fewD (y - 1)) 0 with c | c
      · have := b.2 c; omega
      · have := b.1 c; omega
    have hE : ∀ i, i < en → ∀ y, 0 ≤ y → (fun i y => (et i).few y) i y ≤ y := fun i hi y hy => ((TT.few_bounds (et i) (he i hi) y).1 hy).2
    have c1 := CT.few_bounds con (x - 1 - nm.n - mo.n)
    have l1 := fewN_le hP pa.n (Nat.le_refl _) (con.few (x - 1 - nm.n - mo.n))
    have l2 := fewN_le hA ad.n (Nat.le_refl _) (fewN (fun i y => (pt i).few ((pa.f i).d.fewD (y - 1))) pa.n (con.few (x - 1 - nm.n - mo.n)))
    have z1 := CT.few_sz con _ e0
    refine ⟨by omega, fun i hi => ?_, fun i hi => ?_, fun i hi => ?_⟩
    · have h3 := fewN_pos e1 i hi
      have h4 := fewN_le hP i (by omega) (con.few (x - 1 - nm.n - mo.n))
      have a := DL.fewD_bounds (hp i hi).1.2 (fewN (fun i y => (pt i).few ((pa.f i).d.fewD (y - 1))) i (con.few (x - 1 - nm.n - mo.n)) - 1)
      exact few_small (pt i) _ (hp i hi).2 (by omega) h3.2
    · have h3 := fewN_pos e2 i hi
      have h4 := fewN_le hA i (by omega) (fewN (fun i y => (pt i).few ((pa.f i).d.fewD (y - 1))) pa.n (con.few (x - 1 - nm.n - mo.n)))
      have a := DL.fewD_bounds (ha i hi).1.2 (fewN (fun i y => (at_ i).few ((ad.f i).d.fewD (y - 1))) i (fewN (fun i y => (pt i).few ((pa.f i).d.fewD (y - 1))) pa.n (con.few (x - 1 - nm.n - mo.n))) - 1)
      exact few_small (at_ i) _ (ha i hi).2 (by omega) h3.2
    · have h3 := fewN_pos h0 i hi
      have h4 := fewN_le hE i (by omega) (fewN (fun i y => (at_ i).few ((ad.f i).d.fewD (y - 1))) ad.n (fewN (fun i y => (pt i).few ((pa.f i).d.fewD (y - 1))) pa.n (con.few (x - 1 - nm.n - mo.n))))
      exact few_small (et i) _ (he i hi) (by omega) h3.2
theorem TT.small_con {t : TT} (h : t.small) : t.cn.sz ≤ 100 := by
  cases t with
  | nil => simp [TT.cn, CT.sz]
  | mk => exact h.1
theorem list15 {α : Type} : ∀ (l : List α), l.length = 15 → ∃ v0 v1 v2 v3 v4 v5 v6 v7 v8 v9 v10 v11 v12 v13 v14, l = [v0, v1, v2, v3, v4, v5, v6, v7, v8, v9, v10, v11, v12, v13, v14]
  | [v0, v1, v2, v3, v4, v5, v6, v7, v8, v9, v10, v11, v12, v13, v14], _ => ⟨v0, v1, v2, v3, v4, v5, v6, v7, v8, v9, v10, v11, v12, v13, v14, rfl⟩
end Go.Proofs.Ytfnpjdglfaaegaa
