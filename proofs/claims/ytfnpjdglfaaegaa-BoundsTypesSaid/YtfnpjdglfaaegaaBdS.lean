/-
  Package bounds: 'Set', 'Size', 'Ends'; the law's helper 'same'.
-/
import Derived.Test.YtfnpjdglfaaegaaBdB4
import Derived.Test.YtfnpjdglfaaegaaSpV
namespace Go.Proofs.Ytfnpjdglfaaegaa
open Go.RowKit Go.Shelf
set_option linter.unusedVariables false
set_option linter.unusedSimpArgs false
set_option maxRecDepth 100000

theorem AnsO.cast {base : Nat} {w : World} {v : Value} {p q : Int → Prop} {K L : Nat} {r : List Rg} (h : AnsO base w v p K r) (hpq : ∀ n, I64 n → (p n ↔ q n)) (hK : K ≤ L) : AnsO base w v q L r := ⟨h.1, ⟨h.2.1.1, h.2.1.2.1, fun n hn => (h.2.1.2.2 n hn).trans (hpq n hn)⟩, Nat.le_trans h.2.2 hK⟩
set_option maxHeartbeats 4000000 in
theorem Set_ok (c : CT) (B : Nat) (w : World) (vp : Value) (P : List Rg) (hc : CIn B w c) (hB : B ≤ w.heap.size) (hp : RSl w vp P) (hsz : 2 * c.sz ≤ 1000) (hl : P.length ≤ 1000) :
    Calls Try.prog 11 #[c.v, vp] w fun e w' => ∃ v r, e = .returned v ∧ Ans w' v (fun x => mem P x ∧ adm c 40 x = true) 2000 r ∧ Below w.heap.size w w' := by
  have HA := Lib.hid (admitted_ok c 40 (Nat.le_refl _) hsz)
  obtain ⟨op, lo, hi, low, high, a, n, cap, ch, rfl⟩ := hc.open
  obtain ⟨sp, cp, rfl⟩ := hp.shape
  have HB0 := Lib.hid ((Below.refl w.heap.size w).alloc (Nat.le_refl _) (.cells #[.int .i64 op, .int .i64 lo, .int .i64 hi, .bool low, .bool high, .slice a n cap] 24))
  have HC := Lib.hid (HA.out w.heap.size _ ((hc.below (Below.refl _ _) hB).below HB0.out (Nat.le_refl _)) HB0.out.size)
  have HV := Lib.hid hp
  have HL := Lib.hid hl
  have HSZ := Lib.hid hsz
  have HFIN := Lib.hid (show ∀ (w' : World) (v : Value) (ra r : List Rg), (∀ x, I64 x → (mem ra x ↔ adm (CT.mk op lo hi low high a n cap ch) 40 x = true)) → ra.length ≤ 1000 → ∀ base, AnsO base w' v (fun x => mem P x ∧ mem ra x) (P.length + ra.length) r → Ans w' v (fun x => mem P x ∧ adm (CT.mk op lo hi low high a n cap ch) 40 x = true) 2000 r from fun w' v ra r e1 e2 base h => (h.cast (fun x hx => and_congr Iff.rfl (e1 x hx)) (by omega)).ans)
  simp only [CT.v, CT.cells] at HC ⊢
  generalize (fun x => mem P x ∧ adm (CT.mk op lo hi low high a n cap ch) 40 x = true) = p at *
  obtain ⟨N, hN⟩ : ∃ N, P.length = N := ⟨_, rfl⟩
  have HN := Lib.hid hN
  rw [hN]
  rw [hN] at HV
  clear hc hB hp hsz hl HA hN
  go_enter Try.func11, Try.ntmps11
  go_wp2_with fail
  refine HC.out.mono ?_
  rintro e w1 ⟨va, ra, rfl, h1, h2⟩
  have HB1 := Lib.hid (HB0.out.trans (h2.mono HB0.out.size))
  have HA1 := Lib.hid h1
  have HM := Lib.hid (Meet_own w1 _ va P ra (HV.out.below HB1.out) h1.rsl (by have := HL.out; omega) (by have := h1.2.2.2; have := HSZ.out; omega))
  clear h1 h2 HC
  go_wp2_with fail
  refine HM.out.mono ?_
  rintro e w2 ⟨v, r, rfl, h1, h2⟩
  have HB2 := Lib.hid (HB1.out.trans (h2.mono HB1.out.size))
  have HF := Lib.hid (HFIN.out _ _ _ _ HA1.out.2.2.1 (by have := HA1.out.2.2.2; have := HSZ.out; omega) _ h1)
  clear h1 h2 HM
  go_wp2_with fail
  go_ret
  exact ⟨_, r, rfl, HF.out, HB2.out⟩
def sizeL : List Rg := [(0, 9223372036854775807)]
theorem sizeL_bd : Bd sizeL := by simp [sizeL, Bd, I64]
theorem sizeL_mem (x : Int) (h : I64 x) : mem sizeL x ↔ 0 ≤ x := by unfold I64 at h; unfold sizeL; rw [mem_one]; simp only; omega
set_option maxHeartbeats 1000000 in
theorem Size_ok (w : World) : Calls Try.prog 20 #[] w fun e w' => ∃ v', e = .returned v' ∧ RSl w' v' sizeL ∧ Below w.heap.size w w' := by
  have HR := Lib.hid (rsl_lit w sizeL sizeL_bd #[.int .i64 0, .int .i64 9223372036854775807] rfl 1 rfl)
  have HB := Lib.hid ((Below.refl w.heap.size w).alloc (Nat.le_refl _) (.cells #[.int .i64 0, .int .i64 9223372036854775807] 51))
  go_enter Try.func20, Try.ntmps20
  go_wp2_with fail
  go_ret
  exact ⟨_, rfl, HR.out, HB.out⟩
/-! ### the ends of a right list -/
def eLo (r : List Rg) : Int := if r.length = 0 then 0 else r[0]!.1
def eHi (r : List Rg) : Int := if r.length = 0 then 0 else r[r.length - 1]!.2
def eOk (r : List Rg) : Bool := decide (0 < r.length)
set_option maxHeartbeats 4000000 in
theorem Ends_ok (w : World) (v : Value) (l : List Rg) (h : RSl w v l) (hl : l.length ≤ 10000) :
    Calls Try.prog 16 #[v] w fun e w' => ∃ r, e = .returned (.tuple #[.int .i64 (eLo r), .int .i64 (eHi r), .bool (eOk r)]) ∧ Says r (mem l) ∧ Below w.heap.size w w' := by
  have HC := Lib.hid (Norm_ok w v l h (by omega))
  have HLL := Lib.hid hl
  obtain ⟨sa, ca, rfl⟩ := h.shape
  clear h hl
  go_enter Try.func16, Try.ntmps16
  go_wp2_with fail
  refine HC.out.mono ?_
  rintro e w1 ⟨v1, r, rfl, h1, h2⟩
  have HB := Lib.hid h2
  have HS := Lib.hid h1.2.1
  have HK := Lib.hid (show r.length ≤ 100000 by have := h1.2.2; have := HLL.out; omega)
  rcases Nat.eq_zero_or_pos r.length with h0 | h0
  · obtain rfl : r = [] := List.length_eq_zero_iff.1 h0
    obtain ⟨s1, c1, rfl⟩ := h1.1.shape
    simp only [List.length_nil]
    clear h1 h2 h0 HC
    go_wp2_with fail
    go_ret3
    exact ⟨[], rfl, HS.out, HB.out⟩
  · obtain ⟨g, o, cap, rfl, hcap, hg, hd⟩ := h1.1.at h0
    obtain ⟨m, hm⟩ : ∃ m, r.length = m + 1 := ⟨r.length - 1, by omega⟩
    have HF := Lib.hid (show eLo r = r[0]!.1 ∧ eHi r = r[m]!.2 ∧ eOk r = true from ⟨by unfold eLo; rw [if_neg (by omega)], by unfold eHi; rw [if_neg (by omega), hm]; rfl, by unfold eOk; exact decide_eq_true h0⟩)
    have c1 := (hd 0 h0).1
    have c2 := (hd m (by omega)).2
    rw [hm] at hcap ⊢
    obtain ⟨x, hx⟩ : ∃ x, r[0]!.1 = x := ⟨_, rfl⟩
    obtain ⟨y, hy⟩ : ∃ y, r[m]!.2 = y := ⟨_, rfl⟩
    rw [hx] at c1 HF
    rw [hy] at c2 HF
    rw [Nat.zero_mul, Nat.add_zero] at c1
    have hm1 : m + 1 ≤ 100000 := by have := HK.out; rw [hm] at this; exact this
    have HD := Lib.hid hd
    clear h1 h2 hd hx hy hm HC h0 hg HK
    obtain ⟨N, hN⟩ : ∃ N, m + 1 = N := ⟨_, rfl⟩
    rw [hN] at hcap ⊢
    have q1 : IntKind.i64.wrap ((N : Int) - 1) = (m : Int) := (wrap_ok (by unfold I64; omega)).trans (by omega)
    have HQ := Lib.hid q1
    clear q1
    have x1 : (0 : Int) < (N : Int) := by omega
    have x1n : 0 < N := by omega
    have x2 : (m : Int) < (N : Int) := by omega
    have x2n : m < N := by omega
    have x3 : (0 : Int) ≤ (m : Int) := by omega
    have e0 : ((N : Int) == 0) = false := beq_false_of_ne (by omega)
    have e0n : (N == 0) = false := beq_false_of_ne (by omega)
    have q1 := HQ.out
    clear hN hm1
    go_wp2_with fail
    go_quiet (fail)
    go_wp2_with fail
    go_ret3
    refine ⟨r, ?_, HS.out, ⟨HB.out.os, HB.out.tape, HB.out.output, HB.out.size, HB.out.block⟩⟩
    rw [HF.out.1, HF.out.2.1, HF.out.2.2]
    rfl
set_option maxHeartbeats 4000000 in
theorem rEnds_ok (w : World) (v : Value) (l : List Rg) (h : RSl w v l) (hl : l.length ≤ 300) :
    Calls Try.prog 17 #[v] w fun e w' => ∃ r, e = .returned (.tuple #[.int .i64 (eLo r), .int .i64 (eHi r), .bool (eOk r)]) ∧ Says r (mem l) ∧ Below w.heap.size w w' := by
  have HC := Lib.hid (rNorm_ok w v l h (by omega))
  have HLL := Lib.hid hl
  obtain ⟨sa, ca, rfl⟩ := h.shape
  clear h hl
  go_enter Try.func17, Try.ntmps17
  go_wp2_with fail
  refine HC.out.mono ?_
  rintro e w1 ⟨v1, r, rfl, h1, h2⟩
  have HB := Lib.hid h2
  have HS := Lib.hid h1.2.1
  have HK := Lib.hid (show r.length ≤ 100000 by have := h1.2.2; have := HLL.out; omega)
  rcases Nat.eq_zero_or_pos r.length with h0 | h0
  · obtain rfl : r = [] := List.length_eq_zero_iff.1 h0
    obtain ⟨s1, c1, rfl⟩ := h1.1.shape
    simp only [List.length_nil]
    clear h1 h2 h0 HC
    go_wp2_with fail
    go_ret3
    exact ⟨[], rfl, HS.out, HB.out⟩
  · obtain ⟨g, o, cap, rfl, hcap, hg, hd⟩ := h1.1.at h0
    obtain ⟨m, hm⟩ : ∃ m, r.length = m + 1 := ⟨r.length - 1, by omega⟩
    have HF := Lib.hid (show eLo r = r[0]!.1 ∧ eHi r = r[m]!.2 ∧ eOk r = true from ⟨by unfold eLo; rw [if_neg (by omega)], by unfold eHi; rw [if_neg (by omega), hm]; rfl, by unfold eOk; exact decide_eq_true h0⟩)
    have c1 := (hd 0 h0).1
    have c2 := (hd m (by omega)).2
    rw [hm] at hcap ⊢
    obtain ⟨x, hx⟩ : ∃ x, r[0]!.1 = x := ⟨_, rfl⟩
    obtain ⟨y, hy⟩ : ∃ y, r[m]!.2 = y := ⟨_, rfl⟩
    rw [hx] at c1 HF
    rw [hy] at c2 HF
    rw [Nat.zero_mul, Nat.add_zero] at c1
    have hm1 : m + 1 ≤ 100000 := by have := HK.out; rw [hm] at this; exact this
    have HD := Lib.hid hd
    clear h1 h2 hd hx hy hm HC h0 hg HK
    obtain ⟨N, hN⟩ : ∃ N, m + 1 = N := ⟨_, rfl⟩
    rw [hN] at hcap ⊢
    have q1 : IntKind.i64.wrap ((N : Int) - 1) = (m : Int) := (wrap_ok (by unfold I64; omega)).trans (by omega)
    have HQ := Lib.hid q1
    clear q1
    have x1 : (0 : Int) < (N : Int) := by omega
    have x1n : 0 < N := by omega
    have x2 : (m : Int) < (N : Int) := by omega
    have x2n : m < N := by omega
    have x3 : (0 : Int) ≤ (m : Int) := by omega
    have e0 : ((N : Int) == 0) = false := beq_false_of_ne (by omega)
    have e0n : (N == 0) = false := beq_false_of_ne (by omega)
    have q1 := HQ.out
    clear hN hm1
    go_wp2_with fail
    go_quiet (fail)
    go_wp2_with fail
    go_ret3
    refine ⟨r, ?_, HS.out, ⟨HB.out.os, HB.out.tape, HB.out.output, HB.out.size, HB.out.block⟩⟩
    rw [HF.out.1, HF.out.2.1, HF.out.2.2]
    rfl
set_option maxHeartbeats 1000000 in
theorem same_ok (w : World) (va vb : Value) (a b : List Rg) (ha : RSl w va a) (hb : RSl w vb b) (hn : a.length ≤ 1000000000) :
    Calls Try.prog 10 #[va, vb] w fun e w' => e = .returned (.bool (decide (a = b))) ∧ Below w.heap.size w w' := by
  have HC := Lib.hid (Same_ok w va vb a b ha hb hn)
  generalize decide (a = b) = r at *
  clear ha hb hn
  go_enter Try.func10, Try.ntmps10
  go_wp2_with fail
  refine HC.out.mono ?_
  rintro e w' ⟨rfl, h⟩
  have HB := Lib.hid h
  clear h
  go_wp2_with fail
  go_ret
  exact ⟨rfl, HB.out⟩
theorem same_yes (w : World) (va vb : Value) (a b : List Rg) (ha : RSl w va a) (hb : RSl w vb b) (hn : a.length ≤ 1000000000) (he : a = b) :
    Calls Try.prog 10 #[va, vb] w fun e w' => e = .returned (.bool true) ∧ Below w.heap.size w w' := by
  have h := same_ok w va vb a b ha hb hn
  rw [show decide (a = b) = true from decide_eq_true he] at h
  exact h
/-- two answers that say the same -/
theorem same_ans (w : World) (va vb : Value) (a b : List Rg) (p q : Int → Prop) (K L : Nat) (ha : Ans w va p K a) (hb : Ans w vb q L b) (hK : K ≤ 1000000) (h : ∀ n, I64 n → (p n ↔ q n)) :
    Calls Try.prog 10 #[va, vb] w fun e w' => e = .returned (.bool true) ∧ Below w.heap.size w w' :=
  same_yes w va vb a b ha.1 hb.1 (by have := ha.2.2; omega) (ha.2.1.eq hb.2.1 h)
end Go.Proofs.Ytfnpjdglfaaegaa
