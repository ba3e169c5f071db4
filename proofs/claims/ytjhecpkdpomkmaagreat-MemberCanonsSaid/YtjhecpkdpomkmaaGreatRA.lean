/-
  A bundle of texts, one behind the other: McT, McS, McU.
-/
import Derived.Test.YtjhecpkdpomkmaaGreatQN
import Derived.Test.YtjhecpkdpomkmaaGreatRF
import Derived.Test.YtjhecpkdpomkmaaGreatQA
import Derived.Test.YtjhecpkdpomkmaaGreatQSA
import Derived.Test.YtjhecpkdpomkmaaGreatQTA
namespace Go.Proofs.YtjhecpkdpomkmaaGreat
open Go.RowKit
set_option linter.unusedVariables false
set_option linter.unusedSimpArgs false
set_option maxRecDepth 100000

theorem full_det {d : TB} (hg : d.good = true) : ∀ {v v1 v2 : VT} {i : Nat}, i < d.n → v.has d i = true → v.full d i v1 → v.full d i v2 → v1.same v2 = true
  | .nil, _, _, _, _, _, h, _ => by simp [VT.full] at h
  | .mk k m0 s nm a n cap ch, v1, v2, i, hi, hh, h, hb => by
    have hrow := TB.right_row (TB.good_right hg) hi
    obtain ⟨nm1, a1, n1, cap1, ch1, rfl, h3⟩ := h
    obtain ⟨nm2, a2, n2, cap2, ch2, rfl, h4⟩ := hb
    by_cases h9 : (d.f i).kind = 9
    · rw [if_pos h9] at h3 h4
      obtain ⟨hn1, e1, h5⟩ := h3
      obtain ⟨hn2, e2, h6⟩ := h4
      have he := hrow.elem_t h9
      have h7 := ((has_9 h9).1 hh).2.2.2
      exact VT.same_mk (SL.same_of (by omega) (fun j hj => by omega)) (by omega) fun j hj => full_det hg he.2 (h7 j (by omega)) (h5 j (by omega)) (h6 j (by omega))
    · rw [if_neg h9] at h3 h4
      by_cases h10 : (d.f i).kind = 10
      · rw [if_pos h10] at h3 h4
        obtain ⟨hn1, e1, h5⟩ := h3
        obtain ⟨hn2, e2, h6⟩ := h4
        obtain ⟨_, _, hf, _, h7⟩ := (has_10 h10).1 hh
        have he := (FT.ok_t (hrow.part hf).2).2
        exact VT.same_mk (SL.same_of (by omega) (fun j hj => by omega)) (by omega) fun j hj => by
          obtain rfl : j = 0 := by omega
          exact full_det hg he h7 h5 h6
      · rw [if_neg h10] at h3 h4
        by_cases h8 : (d.f i).kind = 8
        · rw [if_pos h8] at h3 h4
          obtain ⟨hn1, h5⟩ := h3
          obtain ⟨hn2, h6⟩ := h4
          have key : ∀ k, k ≤ (d.f i).count → ∀ x y x2 y2, SeqR (d.f i) nm nm1 (fun x y t => (ch x).full d t (ch1 y)) (fun k j y => leafOf (((d.f i).part k).d.f j) (ch1 y)) k x y →
              SeqR (d.f i) nm nm2 (fun x y t => (ch x).full d t (ch2 y)) (fun k j y => leafOf (((d.f i).part k).d.f j) (ch2 y)) k x2 y2 → x2 = x ∧ y2 = y ∧ ∀ j, j < y → nm1.f j = nm2.f j ∧ (ch1 j).same (ch2 j) = true := by
            intro k
            induction k with
            | zero =>
              rintro _ x y x2 y2 ⟨rfl, rfl⟩ ⟨rfl, rfl⟩
              exact ⟨rfl, rfl, fun j hj => by omega⟩
            | succ k ih =>
              intro hk x y x2 y2 hR hR2
              have hpk := (hrow.part (show k < _ by omega)).2
              rcases hR with ⟨x0, y0, hR0, e1, e2, c, c2, c3⟩ | ⟨y0, hR0, e2, c, c2⟩
              · rcases hR2 with ⟨u0, v0, hQ0, q1, q2, qc, qc2, qc3⟩ | ⟨v0, hQ0, q2, qc, qc2⟩
                · obtain ⟨rfl, rfl, hz⟩ := ih (by omega) _ _ _ _ hR0 hQ0
                  refine ⟨by omega, by omega, fun j hj => ?_⟩
                  rcases Nat.lt_or_ge j v0 with hl | hl
                  · exact hz j hl
                  · obtain rfl : j = v0 := by omega
                    exact ⟨c2.trans qc2.symm, full_det hg (FT.ok_t hpk).2 (has_child hrow h8 hh (show k < _ by omega) c) c3 qc3⟩
                · obtain ⟨rfl, rfl, hz⟩ := ih (by omega) _ _ _ _ hR0 hQ0
                  exact absurd c qc
              · rcases hR2 with ⟨u0, v0, hQ0, q1, q2, qc, qc2, qc3⟩ | ⟨v0, hQ0, q2, qc, qc2⟩
                · obtain ⟨rfl, rfl, hz⟩ := ih (by omega) _ _ _ _ hR0 hQ0
                  exact absurd qc c
                · obtain ⟨rfl, rfl, hz⟩ := ih (by omega) _ _ _ _ hR0 hQ0
                  refine ⟨rfl, by omega, fun j hj => ?_⟩
                  rcases Nat.lt_or_ge j v0 with hl | hl
                  · exact hz j hl
                  · obtain ⟨z, rfl⟩ : ∃ z, j = v0 + z := ⟨j - v0, by omega⟩
                    obtain ⟨f1, f2⟩ := c2 z (by omega)
                    obtain ⟨g1, g2⟩ := qc2 z (by omega)
                    exact ⟨f1.trans g1.symm, leaf_det f2 g2⟩
          obtain ⟨e1, e2, e3⟩ := key _ (Nat.le_refl _) _ _ _ _ h5 h6
          exact VT.same_mk (SL.same_of (by omega) (fun j hj => (e3 j (by omega)).1)) e2.symm fun j hj => (e3 j hj).2
        · rw [if_neg h8] at h3 h4
          exact VT.same_mk (SL.same_of (by omega) (fun j hj => by omega)) (by omega) fun j hj => by omega
/-- the place of a part's name among those that are told, where it is the next one -/
theorem idx_take {r : DT} {rows k x K : Nat} {nm : SL} {h : Nat → Nat → Bool} (hr : RightRow r rows) (hk : k < r.count) (hx : seqGo r nm h k = some x) (hc : x < nm.n ∧ sEq (nm.f x) (r.part k).name = true) : rIdx nm (r.part k).name = (x : Nat) := by
  have h1 : fst (fun i => sEq (nm.f i) (r.part k).name) nm.n = x := fst_eq hc.1 (fun j hj => by
    cases hs : sEq (nm.f j) (r.part k).name with
    | false => rfl
    | true =>
      exfalso
      obtain ⟨k1, _, b1, _, b3, _⟩ := seq_taken (k := 0) (x := 0) (j := j) (Nat.zero_le _) rfl hx (Nat.zero_le _) hj
      have := hr.apart (j := k1) (k := k) (by omega) hk ((sEq_iff.1 b3.2).symm.trans (sEq_iff.1 hs))
      omega) hc.2
  unfold rIdx
  rw [h1, if_pos hc.1]
theorem idx_skip {r : DT} {rows k x : Nat} {nm : SL} {h : Nat → Nat → Bool} (hr : RightRow r rows) (hk : k < r.count) (hx : seqGo r nm h k = some x) (hall : seqGo r nm h r.count = some nm.n) (hc : ¬ (x < nm.n ∧ sEq (nm.f x) (r.part k).name = true)) : rIdx nm (r.part k).name = -1 := by
  have h1 : fst (fun i => sEq (nm.f i) (r.part k).name) nm.n = nm.n := fst_end fun j hj => by
    cases hs : sEq (nm.f j) (r.part k).name with
    | false => rfl
    | true =>
      exfalso
      obtain ⟨k1, _, b1, b2, b3, _⟩ := seq_taken (k := 0) (x := 0) (j := j) (Nat.zero_le _) rfl hall (Nat.zero_le _) hj
      obtain rfl := hr.apart (j := k1) (k := k) b1 hk ((sEq_iff.1 b3.2).symm.trans (sEq_iff.1 hs))
      rw [hx] at b2
      injection b2 with b2
      subst b2
      exact hc ⟨hj, hs⟩
  unfold rIdx
  rw [h1, if_neg (by omega)]
end Go.Proofs.YtjhecpkdpomkmaaGreat

namespace Go.Proofs.YtjhecpkdpomkmaaGreat
open Go.RowKit
set_option linter.unusedVariables false
set_option linter.unusedSimpArgs false
set_option maxRecDepth 100000

def RelQv (w : World) (n : Nat) (p : Nat → Bool) (b1 b2 : Nat) (ty : TypeId) (c1 c2 : Array Value) (iv : Value) (wr : World) : Prop :=
  ∃ i : Nat, i ≤ n ∧ iv = .int .i64 (i : Nat) ∧ allN p i = true ∧ Bx wr b1 c1 ty ∧ Bx wr b2 c2 ty ∧ Below w.heap.size w wr
set_option maxHeartbeats 4000000 in
theorem rsameTexts_ok (B : Nat) (w : World) (a : Option Addr) (n cap : Nat) (f : Nat → ByteArray) (a' : Option Addr) (n' cap' : Nat) (f' : Nat → ByteArray) (hB : B ≤ w.heap.size) (hs : SLIn B w ⟨a, n, cap, f⟩) (ht : SLIn B w ⟨a', n', cap', f'⟩) :
    Calls Tryz.prog 60 #[.slice a n cap, .slice a' n' cap'] w fun e w' => e = .returned (.bool ((SL.mk a n cap f).same ⟨a', n', cap', f'⟩)) ∧ Below w.heap.size w w' := by
  have hr1 : RowAt B w a n cap 1 (fun i => [.string (f i)]) := hs.1
  have hr2 : RowAt B w a' n' cap' 1 (fun i => [.string (f' i)]) := ht.1
  have HB0 := Lib.hid (Below.refl w.heap.size w)
  by_cases hnn : n = n'
  · subst hnn
    obtain ⟨p, hp⟩ : ∃ p, (fun i => sEq (f i) (f' i)) = p := ⟨_, rfl⟩
    have HP := Lib.hid (show ∀ i, p i = sEq (f i) (f' i) from fun i => by rw [← hp])
    have hres : (SL.mk a n cap f).same ⟨a', n, cap', f'⟩ = allN p n := by
      rw [← hp]
      show (decide (n = n) && _) = _
      rw [show decide (n = n) = true from decide_eq_true rfl, Bool.true_and]
    rw [hres]
    obtain ⟨res, hr⟩ : ∃ res, allN p n = res := ⟨_, rfl⟩
    rw [hr]
    have HRES := Lib.hid hr
    have hn : n ≤ 9223372036854775807 := by have h1 := hr1.1; have h2 := hr1.2.1; omega
    have HR1 := Lib.hid hr1
    have HR2 := Lib.hid hr2
    have HBB := Lib.hid hB
    clear hs ht hr1 hr2 hB hp hres hr
    go_enter Tryz.func60, Tryz.ntmps60
    go_wp2_with fail
    go_loopw [5] (fun iv wr => RelEv w n p iv wr) (fun iv _ => n - (Lib.intOf iv).toNat)
    case atStart => exact ⟨0, Nat.zero_le _, rfl, rfl, HB0.out⟩
    case round =>
      obtain ⟨i, hi, rfl, hall, hbel⟩ := hrel
      have HB := Lib.hid hbel
      have HA := Lib.hid hall
      have hsz := hbel.size
      clear hbel hall
      by_cases hlt : i < n
      · have q1 : decide ((i : Int) < (n : Int)) = true := decide_eq_true (by omega)
        have q1n : decide (i < n) = true := decide_eq_true hlt
        have q3 : IntKind.i64.wrap ((i : Int) + 1) = ((i + 1 : Nat) : Int) := wrap_succ hlt hn
        obtain ⟨g1, o1, hix1, hg1, hrd1⟩ := HR1.out.read 23 9 Tryz.underlying23 (by kernel_rfl) Tryz.sizeOf9 hlt
        obtain ⟨g2, o2, hix2, hg2, hrd2⟩ := HR2.out.read 23 9 Tryz.underlying23 (by kernel_rfl) Tryz.sizeOf9 hlt
        have k1 : wr.cell? ⟨g1, o1, none⟩ = some (.string (f i)) := hrd1 wr (HB.out.block g1 (by have := HBB.out; omega)) 0 _ rfl
        have k2 : wr.cell? ⟨g2, o2, none⟩ = some (.string (f' i)) := hrd2 wr (HB.out.block g2 (by have := HBB.out; omega)) 0 _ rfl
        obtain ⟨x, hx⟩ : ∃ x, f i = x := ⟨_, rfl⟩
        obtain ⟨y, hy⟩ : ∃ y, f' i = y := ⟨_, rfl⟩
        have HPI := Lib.hid (show p i = sEq x y by rw [HP.out, hx, hy])
        rw [hx] at k1
        rw [hy] at k2
        clear hx hy hrd1 hrd2
        have d1 := fun d os => cell_regrown k1 d os
        have d2 := fun d os => cell_regrown k2 d os
        clear k1 k2
        cases hxy : sEq x y with
        | true =>
          have HN := Lib.hid (allN_succ (f := p) HA.out (HPI.out.trans hxy))
          obtain rfl : x = y := by rw [sEq_eq] at hxy; exact of_decide_eq_true hxy
          clear hxy HPI
          go_wp2_with fail
          refine wp_region_quiet_below (by kernel_rfl) (by kernel_rfl) ?_
          quiet_step (fail)
          quiet_step (fail)
          quiet_step (fail)
          quiet_step (fail)
          quiet_step (fail)
          quiet_step (fail)
          quiet_step (fail)
          quiet_step (fail)
          quiet_step (fail)
          refine wpQuiet_nil ?_
          intro _ hw'
          obtain ⟨⟨dq, osq⟩, hw''⟩ := hw'
          subst hw''
          have hb2 := below_regrown wr dq osq
          clear d1 d2
          generalize Go.Sort.grow (redrawn wr dq) osq = W2 at *
          have HB1 := Lib.hid (HB.out.trans (hb2.mono hsz))
          clear hb2
          go_wp2_with fail
          go_roundw
          case rel => exact ⟨i + 1, hlt, rfl, HN.out, HB1.out⟩
          case measure => simp only [Lib.intOf]; omega
        | false =>
          have HN := Lib.hid (allN_no (f := p) hlt (HPI.out.trans hxy))
          have q4 : (x.toList != y.toList) = true := by unfold bne; rw [show (x.toList == y.toList) = false from hxy]; rfl
          have q5 : (x.toList == y.toList) = false := hxy
          obtain rfl : res = false := by rw [← HRES.out, HN.out]
          clear hxy HPI
          go_wp2_with fail
          refine wp_region_quiet_below (by kernel_rfl) (by kernel_rfl) ?_
          quiet_step (fail)
          quiet_step (fail)
          quiet_step (fail)
          quiet_step (fail)
          quiet_step (fail)
          quiet_step (fail)
          quiet_step (fail)
          quiet_step (fail)
          quiet_step (fail)
          refine wpQuiet_nil ?_
          intro _ hw'
          obtain ⟨⟨dq, osq⟩, hw''⟩ := hw'
          subst hw''
          have hb2 := below_regrown wr dq osq
          clear d1 d2
          generalize Go.Sort.grow (redrawn wr dq) osq = W2 at *
          have HB1 := Lib.hid (HB.out.trans (hb2.mono hsz))
          clear hb2
          go_wp2_with fail
          go_ret
          exact ⟨rfl, HB1.out⟩
      · have q1 : decide ((i : Int) < (n : Int)) = false := decide_eq_false (by omega)
        have q1n : decide (i < n) = false := decide_eq_false hlt
        obtain rfl : i = n := by omega
        go_wp2_with fail
        go_ret
        refine ⟨?_, HB.out⟩
        rw [← HRES.out, HA.out]
        rfl
  · have q0 : ((n : Int) != (n' : Int)) = true := by simp [bne]; omega
    rw [show (SL.mk a n cap f).same ⟨a', n', cap', f'⟩ = false by show (decide (n = n') && _) = false; rw [decide_eq_false hnn]; rfl]
    clear hs ht hr1 hr2 hB hnn
    go_enter Tryz.func60, Tryz.ntmps60
    go_wp2_with fail
    go_ret
    exact ⟨rfl, HB0.out⟩
set_option maxHeartbeats 8000000 in
theorem rsameValue_ok : ∀ (c d : VT) (B : Nat) (w : World), VIn B w c → VIn B w d → B ≤ w.heap.size →
    Calls Tryz.prog 38 #[.agg c.cells.toArray, .agg d.cells.toArray] w fun e w' => e = .returned (.bool (c.same d)) ∧ Below w.heap.size w w'
  | .nil, _, _, _, h, _, _ => h.elim
  | .mk .., .nil, _, _, _, h, _ => h.elim
  | .mk k m s ⟨na, nn, nc, nf⟩ a n cap ch, .mk k' m' s' ⟨na', nn', nc', nf'⟩ a' n' cap' ch', B, w, hc, hd, hB => by
    have hrec := fun i (h1 : i < n) (h2 : i < n') (w' : World) (hb : Below w.heap.size w w') => rsameValue_ok (ch i) (ch' i) w.heap.size w' ((hc.2.2 i h1).below hb hB) ((hd.2.2 i h2).below hb hB) hb.size
    cases h0 : (k == k') with
    | false =>
      have HB0 := Lib.hid (((Below.refl w.heap.size w).alloc (Nat.le_refl _) (.cells #[.int .i64 k, .int .i64 m, .string s, .slice na nn nc, .slice a n cap] 26)).alloc (by simp) (.cells #[.int .i64 k', .int .i64 m', .string s', .slice na' nn' nc', .slice a' n' cap'] 26))
      have HX1 := Lib.hid ((Bx.new w #[.int .i64 k, .int .i64 m, .string s, .slice na nn nc, .slice a n cap] 26).alloc (.cells #[.int .i64 k', .int .i64 m', .string s', .slice na' nn' nc', .slice a' n' cap'] 26))
      have HX2 := Lib.hid (show Bx ((w.alloc (.cells #[.int .i64 k, .int .i64 m, .string s, .slice na nn nc, .slice a n cap] 26)).alloc (.cells #[.int .i64 k', .int .i64 m', .string s', .slice na' nn' nc', .slice a' n' cap'] 26)) (w.heap.size + 1) #[.int .i64 k', .int .i64 m', .string s', .slice na' nn' nc', .slice a' n' cap'] 26 by have h := Bx.new (w.alloc (.cells #[.int .i64 k, .int .i64 m, .string s, .slice na nn nc, .slice a n cap] 26)) #[.int .i64 k', .int .i64 m', .string s', .slice na' nn' nc', .slice a' n' cap'] 26; rw [World.size_alloc] at h; exact h)
      have q0 : (k != k') = true := by unfold bne; rw [show (k == k') = false from h0]; rfl
      rw [show (VT.mk k m s ⟨na, nn, nc, nf⟩ a n cap ch).same (VT.mk k' m' s' ⟨na', nn', nc', nf'⟩ a' n' cap' ch') = false from by simp only [VT.same, beq_self_eq_true, sEq_refl, Bool.false_and, Bool.and_false, Bool.true_and, h0]]
      clear hc hd hB hrec h0
      simp only [CT.cells, VT.cells, SL.v]
      go_enter Tryz.func38, Tryz.ntmps38
      go_wp2_with fail
      go_ret
      exact ⟨rfl, HB0.out⟩
    | true =>
      obtain rfl : k = k' := by simpa using h0
      clear h0
      cases h1 : (m == m') with
      | false =>
        have HB0 := Lib.hid (((Below.refl w.heap.size w).alloc (Nat.le_refl _) (.cells #[.int .i64 k, .int .i64 m, .string s, .slice na nn nc, .slice a n cap] 26)).alloc (by simp) (.cells #[.int .i64 k, .int .i64 m', .string s', .slice na' nn' nc', .slice a' n' cap'] 26))
        have HX1 := Lib.hid ((Bx.new w #[.int .i64 k, .int .i64 m, .string s, .slice na nn nc, .slice a n cap] 26).alloc (.cells #[.int .i64 k, .int .i64 m', .string s', .slice na' nn' nc', .slice a' n' cap'] 26))
        have HX2 := Lib.hid (show Bx ((w.alloc (.cells #[.int .i64 k, .int .i64 m, .string s, .slice na nn nc, .slice a n cap] 26)).alloc (.cells #[.int .i64 k, .int .i64 m', .string s', .slice na' nn' nc', .slice a' n' cap'] 26)) (w.heap.size + 1) #[.int .i64 k, .int .i64 m', .string s', .slice na' nn' nc', .slice a' n' cap'] 26 by have h := Bx.new (w.alloc (.cells #[.int .i64 k, .int .i64 m, .string s, .slice na nn nc, .slice a n cap] 26)) #[.int .i64 k, .int .i64 m', .string s', .slice na' nn' nc', .slice a' n' cap'] 26; rw [World.size_alloc] at h; exact h)
        have q1 : (m != m') = true := by unfold bne; rw [show (m == m') = false from h1]; rfl
        rw [show (VT.mk k m s ⟨na, nn, nc, nf⟩ a n cap ch).same (VT.mk k m' s' ⟨na', nn', nc', nf'⟩ a' n' cap' ch') = false from by simp only [VT.same, beq_self_eq_true, sEq_refl, Bool.false_and, Bool.and_false, Bool.true_and, h1]]
        clear hc hd hB hrec h1
        simp only [CT.cells, VT.cells, SL.v]
        go_enter Tryz.func38, Tryz.ntmps38
        go_wp2_with fail
        go_ret
        exact ⟨rfl, HB0.out⟩
      | true =>
        obtain rfl : m = m' := by simpa using h1
        clear h1
        cases h2 : sEq s s' with
        | false =>
          have HB0 := Lib.hid (((Below.refl w.heap.size w).alloc (Nat.le_refl _) (.cells #[.int .i64 k, .int .i64 m, .string s, .slice na nn nc, .slice a n cap] 26)).alloc (by simp) (.cells #[.int .i64 k, .int .i64 m, .string s', .slice na' nn' nc', .slice a' n' cap'] 26))
          have HX1 := Lib.hid ((Bx.new w #[.int .i64 k, .int .i64 m, .string s, .slice na nn nc, .slice a n cap] 26).alloc (.cells #[.int .i64 k, .int .i64 m, .string s', .slice na' nn' nc', .slice a' n' cap'] 26))
          have HX2 := Lib.hid (show Bx ((w.alloc (.cells #[.int .i64 k, .int .i64 m, .string s, .slice na nn nc, .slice a n cap] 26)).alloc (.cells #[.int .i64 k, .int .i64 m, .string s', .slice na' nn' nc', .slice a' n' cap'] 26)) (w.heap.size + 1) #[.int .i64 k, .int .i64 m, .string s', .slice na' nn' nc', .slice a' n' cap'] 26 by have h := Bx.new (w.alloc (.cells #[.int .i64 k, .int .i64 m, .string s, .slice na nn nc, .slice a n cap] 26)) #[.int .i64 k, .int .i64 m, .string s', .slice na' nn' nc', .slice a' n' cap'] 26; rw [World.size_alloc] at h; exact h)
          have q2 : (s.toList != s'.toList) = true := by unfold bne; rw [show (s.toList == s'.toList) = false from h2]; rfl
          have qe2 : (s.toList == s'.toList) = false := h2
          rw [show (VT.mk k m s ⟨na, nn, nc, nf⟩ a n cap ch).same (VT.mk k m s' ⟨na', nn', nc', nf'⟩ a' n' cap' ch') = false from by simp only [VT.same, beq_self_eq_true, sEq_refl, Bool.false_and, Bool.and_false, Bool.true_and, h2]]
          clear hc hd hB hrec h2
          simp only [CT.cells, VT.cells, SL.v]
          go_enter Tryz.func38, Tryz.ntmps38
          go_wp2_with fail
          go_ret
          exact ⟨rfl, HB0.out⟩
        | true =>
          obtain rfl : s = s' := by rw [sEq_eq] at h2; exact of_decide_eq_true h2
          clear h2
          have HS := Lib.hid (fun (W : World) (hb : Below w.heap.size w W) => rsameTexts_ok w.heap.size W na nn nc nf na' nn' nc' nf' hb.size (hc.1.2.2.2.below hb hB) (hd.1.2.2.2.below hb hB))
          have hres : (VT.mk k m s ⟨na, nn, nc, nf⟩ a n cap ch).same (VT.mk k m s ⟨na', nn', nc', nf'⟩ a' n' cap' ch') = ((SL.mk na nn nc nf).same ⟨na', nn', nc', nf'⟩ && (decide (n = n') && allN (fun i => (ch i).same (ch' i)) n)) := by simp only [VT.same, beq_self_eq_true, sEq_refl, Bool.false_and, Bool.and_false, Bool.true_and]
          obtain ⟨res, hr⟩ : ∃ res, (VT.mk k m s ⟨na, nn, nc, nf⟩ a n cap ch).same (VT.mk k m s ⟨na', nn', nc', nf'⟩ a' n' cap' ch') = res := ⟨_, rfl⟩
          rw [hr] at hres ⊢
          have HRES := Lib.hid hres
          clear hres hr
          have HB0 := Lib.hid (((Below.refl w.heap.size w).alloc (Nat.le_refl _) (.cells #[.int .i64 k, .int .i64 m, .string s, .slice na nn nc, .slice a n cap] 26)).alloc (by simp) (.cells #[.int .i64 k, .int .i64 m, .string s, .slice na' nn' nc', .slice a' n' cap'] 26))
          have HX1 := Lib.hid ((Bx.new w #[.int .i64 k, .int .i64 m, .string s, .slice na nn nc, .slice a n cap] 26).alloc (.cells #[.int .i64 k, .int .i64 m, .string s, .slice na' nn' nc', .slice a' n' cap'] 26))
          have HX2 := Lib.hid (show Bx ((w.alloc (.cells #[.int .i64 k, .int .i64 m, .string s, .slice na nn nc, .slice a n cap] 26)).alloc (.cells #[.int .i64 k, .int .i64 m, .string s, .slice na' nn' nc', .slice a' n' cap'] 26)) (w.heap.size + 1) #[.int .i64 k, .int .i64 m, .string s, .slice na' nn' nc', .slice a' n' cap'] 26 by have h := Bx.new (w.alloc (.cells #[.int .i64 k, .int .i64 m, .string s, .slice na nn nc, .slice a n cap] 26)) #[.int .i64 k, .int .i64 m, .string s, .slice na' nn' nc', .slice a' n' cap'] 26; rw [World.size_alloc] at h; exact h)
          by_cases hnn : n = n'
          rotate_left
          · have qn : ((n : Int) != (n' : Int)) = true := by simp [bne]; omega
            have hz : (decide (n = n') && allN (fun i => (ch i).same (ch' i)) n) = false := by rw [decide_eq_false hnn]; rfl
            rw [hz] at HRES
            obtain rfl : res = false := by rw [HRES.out, Bool.and_false]
            have HS0 := Lib.hid (HS.out _ HB0.out)
            clear hc hd hB hrec hnn hz HRES HS
            simp only [CT.cells, VT.cells, SL.v]
            go_enter Tryz.func38, Tryz.ntmps38
            go_wp2_with fail
            refine HS0.out.mono ?_
            rintro e v1 ⟨rfl, hb⟩
            have HB1 := Lib.hid (HB0.out.trans (hb.mono HB0.out.size))
            have y1 := HX1.out.below hb HX1.out.lt
            have y2 := HX2.out.below hb HX2.out.lt
            have e1 : v1.cell? ⟨w.heap.size, 4, none⟩ = some (.slice a n cap) := y1.cell 4 rfl
            have e2 : v1.cell? ⟨w.heap.size + 1, 4, none⟩ = some (.slice a' n' cap') := y2.cell 4 rfl
            clear hb y1 y2
            cases (SL.mk na nn nc nf).same ⟨na', nn', nc', nf'⟩ with
            | true =>
              go_wp2_with fail
              go_ret
              exact ⟨rfl, HB1.out⟩
            | false =>
              go_wp2_with fail
              go_ret
              exact ⟨rfl, HB1.out⟩
          subst hnn
          obtain ⟨p, hp⟩ : ∃ p, (fun i => (ch i).same (ch' i)) = p := ⟨_, rfl⟩
          have HP := Lib.hid (show ∀ i, p i = (ch i).same (ch' i) from fun i => by rw [← hp])
          rw [hp, show decide (n = n) = true from decide_eq_true rfl, Bool.true_and] at HRES
          have hn : n ≤ 9223372036854775807 := by have h1 := hc.2.1.1; have h2 := hc.2.1.2.1; omega
          have HR1 := Lib.hid hc.2.1
          have HR2 := Lib.hid hd.2.1
          have HC1 := Lib.hid hc.2.2
          have HC2 := Lib.hid hd.2.2
          have HBB := Lib.hid hB
          have HREC := Lib.hid hrec
          have HS0 := Lib.hid (HS.out _ HB0.out)
          clear HS
          clear hc hd hB hrec hp
          simp only [CT.cells, VT.cells, SL.v]
          go_enter Tryz.func38, Tryz.ntmps38
          go_wp2_with fail
          refine HS0.out.mono ?_
          rintro e v1 ⟨rfl, hb⟩
          have HB1 := Lib.hid (HB0.out.trans (hb.mono HB0.out.size))
          have HY1 := Lib.hid (HX1.out.below hb HX1.out.lt)
          have HY2 := Lib.hid (HX2.out.below hb HX2.out.lt)
          have e1 : v1.cell? ⟨w.heap.size, 4, none⟩ = some (.slice a n cap) := HY1.out.cell 4 rfl
          have e2 : v1.cell? ⟨w.heap.size + 1, 4, none⟩ = some (.slice a' n cap') := HY2.out.cell 4 rfl
          clear hb HX1 HX2 HB0 HS0
          obtain ⟨sr, hsr⟩ : ∃ r, (SL.mk na nn nc nf).same ⟨na', nn', nc', nf'⟩ = r := ⟨_, rfl⟩
          rw [hsr] at HRES ⊢
          clear hsr
          cases sr with
          | false =>
            obtain rfl : res = false := HRES.out
            go_wp2_with fail
            go_ret
            exact ⟨rfl, HB1.out⟩
          | true =>
            have HRES2 := Lib.hid (show res = allN p n from HRES.out)
            go_wp2_with fail
            clear e1 e2
            go_loopw [5] (fun iv wr => RelQv w n p w.heap.size (w.heap.size + 1) 26 #[.int .i64 k, .int .i64 m, .string s, .slice na nn nc, .slice a n cap] #[.int .i64 k, .int .i64 m, .string s, .slice na' nn' nc', .slice a' n cap'] iv wr) (fun iv _ => n - (Lib.intOf iv).toNat)
            case atStart => exact ⟨0, Nat.zero_le _, rfl, rfl, HY1.out, HY2.out, HB1.out⟩
            case round =>
              obtain ⟨i, hi, rfl, hall, hx1, hx2, hbel⟩ := hrel
              have HB := Lib.hid hbel
              have HA := Lib.hid hall
              have HZ1 := Lib.hid hx1
              have HZ2 := Lib.hid hx2
              have hsz := hbel.size
              have z1 : wr.cell? ⟨w.heap.size, 4, none⟩ = some (.slice a n cap) := hx1.cell 4 rfl
              have z2 : wr.cell? ⟨w.heap.size + 1, 4, none⟩ = some (.slice a' n cap') := hx2.cell 4 rfl
              clear hbel hall hx1 hx2
              by_cases hlt : i < n
              · have q1 : decide ((i : Int) < (n : Int)) = true := decide_eq_true (by omega)
                have q1n : decide (i < n) = true := decide_eq_true hlt
                have q3 : IntKind.i64.wrap ((i : Int) + 1) = ((i + 1 : Nat) : Int) := wrap_succ hlt hn
                obtain ⟨g1, o1, kx1, mx1, sx1, nx1, ny1, nz1, nw1, a1, n1, cap1, ch1, hch1, hix1, hg1, hrd1⟩ := vRow_read HR1.out hlt (HC1.out i hlt)
                obtain ⟨g2, o2, kx2, mx2, sx2, nx2, ny2, nz2, nw2, a2, n2, cap2, ch2, hch2, hix2, hg2, hrd2⟩ := vRow_read HR2.out hlt (HC2.out i hlt)
                obtain ⟨k0, k1, k2, k3, k4⟩ := hrd1 wr (HB.out.block g1 (by have := HBB.out; omega))
                obtain ⟨m0, m1, m2, m3, m4⟩ := hrd2 wr (HB.out.block g2 (by have := HBB.out; omega))
                have HCL := Lib.hid (fun (d : Nat) (os : Array Obj) => Calls.regrown_of (HREC.out i hlt hlt (Go.Sort.grow (redrawn wr d) os) (HB.out.trans ((below_regrown wr d os).mono hsz))))
                obtain ⟨r, hr⟩ : ∃ r, (ch i).same (ch' i) = r := ⟨_, rfl⟩
                rw [hr] at HCL
                have HPI := Lib.hid (show p i = r by rw [HP.out, hr])
                rw [hch1, hch2] at HCL
                simp only [CT.cells, VT.cells, SL.v] at HCL
                have d5x := fun d os => cell_regrown z1 d os
                have f5x := fun d os => cell_regrown z2 d os
                have d0 := fun d os => cell_regrown k0 d os
                have f0 := fun d os => cell_regrown m0 d os
                have d1 := fun d os => cell_regrown k1 d os
                have f1 := fun d os => cell_regrown m1 d os
                have d2 := fun d os => cell_regrown k2 d os
                have f2 := fun d os => cell_regrown m2 d os
                have d3 := fun d os => cell_regrown k3 d os
                have f3 := fun d os => cell_regrown m3 d os
                have d4 := fun d os => cell_regrown k4 d os
                have f4 := fun d os => cell_regrown m4 d os
                clear hr hch1 hch2 hrd1 hrd2 k0 k1 k2 k3 k4 m0 m1 m2 m3 m4
                cases r with
                | true =>
                  have HN := Lib.hid (allN_succ (f := p) HA.out HPI.out)
                  clear HPI
                  go_wp2_with fail
                  clear z1 z2
                  refine wp_region_quiet_below (by kernel_rfl) (by kernel_rfl) ?_
                  quiet_step (fail)
                  quiet_step (fail)
                  quiet_step (fail)
                  quiet_step (fail)
                  quiet_step (fail)
                  quiet_step (fail)
                  quiet_step (fail)
                  quiet_step (fail)
                  quiet_step (fail)
                  quiet_step (fail)
                  quiet_step (exact HCL.out _ _)
                  quiet_step (fail)
                  refine wpQuiet_nil ?_
                  intro _ hw'
                  obtain ⟨⟨dq, osq⟩, hw''⟩ := hw'
                  subst hw''
                  have hb2 := below_regrown wr dq osq
                  clear d5x f5x d0 f0 d1 f1 d2 f2 d3 f3 d4 f4 HCL
                  generalize Go.Sort.grow (redrawn wr dq) osq = W2 at *
                  have HB1 := Lib.hid (HB.out.trans (hb2.mono hsz))
                  have HW1 := Lib.hid (HZ1.out.below hb2 HZ1.out.lt)
                  have HW2 := Lib.hid (HZ2.out.below hb2 HZ2.out.lt)
                  clear hb2
                  go_wp2_with fail
                  go_roundw
                  case rel => exact ⟨i + 1, hlt, rfl, HN.out, HW1.out, HW2.out, HB1.out⟩
                  case measure => simp only [Lib.intOf]; omega
                | false =>
                  have HN := Lib.hid (allN_no (f := p) hlt HPI.out)
                  obtain rfl : res = false := by rw [HRES2.out, HN.out]
                  clear HPI
                  go_wp2_with fail
                  clear z1 z2
                  refine wp_region_quiet_below (by kernel_rfl) (by kernel_rfl) ?_
                  quiet_step (fail)
                  quiet_step (fail)
                  quiet_step (fail)
                  quiet_step (fail)
                  quiet_step (fail)
                  quiet_step (fail)
                  quiet_step (fail)
                  quiet_step (fail)
                  quiet_step (fail)
                  quiet_step (fail)
                  quiet_step (exact HCL.out _ _)
                  quiet_step (fail)
                  refine wpQuiet_nil ?_
                  intro _ hw'
                  obtain ⟨⟨dq, osq⟩, hw''⟩ := hw'
                  subst hw''
                  have hb2 := below_regrown wr dq osq
                  clear d5x f5x d0 f0 d1 f1 d2 f2 d3 f3 d4 f4 HCL
                  generalize Go.Sort.grow (redrawn wr dq) osq = W2 at *
                  have HB1 := Lib.hid (HB.out.trans (hb2.mono hsz))
                  clear hb2
                  go_wp2_with fail
                  go_ret
                  exact ⟨rfl, HB1.out⟩
              · have q1 : decide ((i : Int) < (n : Int)) = false := decide_eq_false (by omega)
                have q1n : decide (i < n) = false := decide_eq_false hlt
                obtain rfl : i = n := by omega
                go_wp2_with fail
                go_ret
                refine ⟨?_, HB.out⟩
                rw [HRES2.out, HA.out]
                rfl
end Go.Proofs.YtjhecpkdpomkmaaGreat

namespace Go.Proofs.YtjhecpkdpomkmaaGreat
open Go.RowKit
set_option linter.unusedVariables false
set_option linter.unusedSimpArgs false
set_option maxRecDepth 100000

theorem info_D12A : (Tryz.prog.info? 46).map (·.size) = some 12 := by kernel_rfl
theorem one_dcells15A (r : DT) : r.cells.length = 12 ∧ ∀ v ∈ r.cells, v.oneCell' = true := by
  constructor
  · rfl
  · intro v hv
    simp [DT.cells, RS.v, SL.v, FL.v, NL.v] at hv
    rcases hv with rfl | rfl | rfl | rfl | rfl | rfl | rfl | rfl | rfl | rfl | rfl | rfl <;> rfl
theorem CpS.keepA {A p q : Nat} {W W' : World} {nv lv : Value} {N : Nat → ByteArray} {f : Nat → VT} (h : CpS A W nv p N lv q f) (hf : ∀ g, A ≤ g → W'.heap[g]? = W.heap[g]?) (hz : W.heap.size ≤ W'.heap.size) : CpS A W' nv p N lv q f :=
  ⟨own_keepM h.nm fun b _ e => hf b (h.nm.lt b e).1, h.got.keep hf hz, h.apart, h.rows, h.sz⟩
/-- all that was there stays, but block c -/
structure AtK (c : Nat) (w w' : World) : Prop where
  os : w'.os = w.os
  tape : w'.tape = w.tape
  output : w'.output = w.output
  size : w.heap.size ≤ w'.heap.size
  block : ∀ g, g < w.heap.size → g ≠ c → w'.heap[g]? = w.heap[g]?
theorem AtK.refl (c : Nat) (w : World) : AtK c w w := ⟨rfl, rfl, rfl, Nat.le_refl _, fun _ _ _ => rfl⟩
theorem AtK.then {c : Nat} {w x y : World} (h : AtK c w x) (hb : Below x.heap.size x y) : AtK c w y :=
  ⟨hb.os.trans h.os, hb.tape.trans h.tape, hb.output.trans h.output, Nat.le_trans h.size hb.size, fun g hg hc => (hb.block g (by have := h.size; omega)).trans (h.block g hg hc)⟩
theorem AtK.below {c B : Nat} {w x : World} (h : AtK c w x) (hc : B ≤ c) (hw : B ≤ w.heap.size) : Below B w x := ⟨h.os, h.tape, h.output, h.size, fun g hg => h.block g (by omega) (by omega)⟩
theorem AtK.grown {c : Nat} {w x y : World} {row : Option Nat} (h : AtK c w x) (hg : x.grownBy y row) (hr : ∀ q, row = some q → w.heap.size ≤ q) : AtK c w y :=
  ⟨hg.os.trans h.os, hg.tape.trans h.tape, hg.output.trans h.output, Nat.le_trans h.size hg.size, fun g hl hc => (hg.block g (by have := h.size; omega) (fun e => by have := hr g e.symm; omega)).trans (h.block g hl hc)⟩
theorem AtK.set {c j : Nat} {v : Value} {w x : World} (h : AtK c w x) : AtK c w (x.setCell ⟨c, j, none⟩ v) :=
  ⟨h.os, h.tape, h.output, by rw [World.size_setCell]; exact h.size, fun g hg hc => (heap_fieldM hc).trans (h.block g hg hc)⟩
/-- a value more -/
theorem cp_val {W4 wr w5 w6 w8 : World} {A c : Nat} {k m : Int} {s : ByteArray} {nv lv : Value} {p y g cap : Nat} {N : Nat → ByteArray} {f : Nat → VT} {x : VT} (hA : W4.heap.size = A) (hc : c < A)
    (hbx : Bx wr c #[.int .i64 k, .int .i64 m, .string s, nv, lv] 26) (hcp : CpS A wr nv p N lv y f) (hb3 : AtK c W4 wr)
    (h5 : wr.heap.size ≤ w5.heap.size) (h6 : Below wr.heap.size wr w6) (hx : VIn w6.heap.size w6 x) (hxb : VBlk (w5.heap.size ≤ ·) x)
    (ho : w8.ownsRow A 26 5 (.slice (some ⟨g, 0, none⟩) (y + 1) cap) (y + 1) (flatV f y ++ x.cells))
    (hg : (w6.alloc (.cells x.cells.toArray 26)).grownBy w8 lv.ownBlock) (hat : lv.ownBlock = some g ∨ g = w6.heap.size + 1) :
    Bx w8 c #[.int .i64 k, .int .i64 m, .string s, nv, lv] 26 ∧
    Bx (w8.setCell ⟨c, 4, none⟩ (.slice (some ⟨g, 0, none⟩) (y + 1) cap)) c #[.int .i64 k, .int .i64 m, .string s, nv, .slice (some ⟨g, 0, none⟩) (y + 1) cap] 26 ∧
    CpS A (w8.setCell ⟨c, 4, none⟩ (.slice (some ⟨g, 0, none⟩) (y + 1) cap)) nv p N (.slice (some ⟨g, 0, none⟩) (y + 1) cap) (y + 1) (fun i => if i < y then f i else x) ∧
    AtK c W4 (w8.setCell ⟨c, 4, none⟩ (.slice (some ⟨g, 0, none⟩) (y + 1) cap)) := by
  have h7 : Below wr.heap.size wr (w6.alloc (.cells x.cells.toArray 26)) := h6.alloc h6.size _
  have hlt := hcp.got.1.lt
  have hltn := hcp.nm.lt
  have hbx7 := hbx.below h7 (by have := hb3.size; omega)
  have hbx8 : Bx w8 c #[.int .i64 k, .int .i64 m, .string s, nv, lv] 26 := (hg.block _ hbx7.lt (fun e => by have := (hlt c e.symm).1; omega)).trans hbx7
  have hsz : (w6.alloc (.cells x.cells.toArray 26)).heap.size = w6.heap.size + 1 := World.size_alloc ..
  have hcp8 := (hcp.below h7).addVal (x := x) ((hx.below ((Below.refl w6.heap.size w6).alloc (Nat.le_refl _) (.cells x.cells.toArray 26)) (Nat.le_refl _)).below (Below.refl _ _) (by rw [hsz]; omega))
    (hxb.mono fun q hq => ⟨by have : w5.heap.size ≤ q := hq; have := hb3.size; omega, fun e => by have : w5.heap.size ≤ q := hq; have := (hlt q e.symm).2; omega⟩) (hxb.mono fun q hq e => by have : w5.heap.size ≤ q := hq; have := (hltn q e.symm).2; omega) ho hg (by rw [hsz]; exact hat)
  exact ⟨hbx8, bx_fieldM hbx8 4 _, hcp8.keepA (fun q hq => heap_fieldM (by omega)) (by simp), ((hb3.then h7).grown hg fun q e => by have := (hlt q e).1; omega).set⟩
def StN (A c : Nat) (k m : Int) (s : ByteArray) (W4 : World) (y : Nat) (N : Nat → ByteArray) (pn : ByteArray) (lv : Value) (f : Nat → VT) (wx : World) : Prop :=
  ∃ g cap : Nat, Bx wx c #[.int .i64 k, .int .i64 m, .string s, .slice (some ⟨g, 0, none⟩) (y + 1) cap, lv] 26 ∧ CpS A wx (.slice (some ⟨g, 0, none⟩) (y + 1) cap) (y + 1) (fun i => if i < y then N i else pn) lv y f ∧ AtK c W4 wx
def StV (A c : Nat) (k m : Int) (s : ByteArray) (W4 : World) (nv : Value) (p : Nat) (N : Nat → ByteArray) (y : Nat) (f : Nat → VT) (PF : VT → Prop) (wx : World) : Prop :=
  ∃ (g cap : Nat) (x : VT), Bx wx c #[.int .i64 k, .int .i64 m, .string s, nv, .slice (some ⟨g, 0, none⟩) (y + 1) cap] 26 ∧ CpS A wx nv p N (.slice (some ⟨g, 0, none⟩) (y + 1) cap) (y + 1) (fun i => if i < y then f i else x) ∧ PF x ∧ AtK c W4 wx
set_option maxHeartbeats 64000000 in
theorem rAt_leaf (B : Nat) (w : World) (d : TB) (i : Nat) (k m : Int) (s : ByteArray) (nm : SL) (a : Option Addr) (n cap : Nat) (ch : Nat → VT) (hd : TBIn B w d) (hB : B ≤ w.heap.size) (hi : i < d.n) (h8 : (d.f i).kind ≠ 8) (h9 : (d.f i).kind ≠ 9) (h10 : (d.f i).kind ≠ 10) :
    Calls Tryz.prog 37 #[.slice d.a d.n d.cap, .int .i64 (i : Nat), .agg (VT.mk k m s nm a n cap ch).cells.toArray] w fun e w' => e = .returned (.agg (leafV k m s).cells.toArray) ∧ Below w.heap.size w w' := by
  rw [leafV_cells]
  have HDI := Lib.hid ((hd.2 i hi).below (Below.refl w.heap.size w) hB)
  obtain ⟨gx, ox, hix, hgx, hrd⟩ := hd.1.read 22 46 Tryz.underlying22 (by kernel_rfl) Tryz.sizeOf46 hi
  obtain ⟨r, hr⟩ : ∃ r, d.f i = r := ⟨_, rfl⟩
  have HRE := Lib.hid hr
  have HO := Lib.hid (one_dcells15A r)
  have hb1 := ((Below.refl w.heap.size w).alloc (Nat.le_refl _) (.cells #[.int .i64 k, .int .i64 m, .string s, .slice nm.a nm.n nm.cap, .slice a n cap] 26)).alloc (by simp) (.cells #[.int .i64 0, .int .i64 0, .string ⟨#[]⟩, .slice none 0 0, .slice none 0 0] 26)
  have HX5 := Lib.hid ((Bx.new w #[.int .i64 k, .int .i64 m, .string s, .slice nm.a nm.n nm.cap, .slice a n cap] 26).alloc (.cells #[.int .i64 0, .int .i64 0, .string ⟨#[]⟩, .slice none 0 0, .slice none 0 0] 26))
  have HX6 := Lib.hid (show Bx ((w.alloc (.cells #[.int .i64 k, .int .i64 m, .string s, .slice nm.a nm.n nm.cap, .slice a n cap] 26)).alloc (.cells #[.int .i64 0, .int .i64 0, .string ⟨#[]⟩, .slice none 0 0, .slice none 0 0] 26)) (w.heap.size + 1) #[.int .i64 0, .int .i64 0, .string ⟨#[]⟩, .slice none 0 0, .slice none 0 0] 26 from by have h := Bx.new (w.alloc (.cells #[.int .i64 k, .int .i64 m, .string s, .slice nm.a nm.n nm.cap, .slice a n cap] 26)) #[.int .i64 0, .int .i64 0, .string ⟨#[]⟩, .slice none 0 0, .slice none 0 0] 26; rwa [World.size_alloc] at h)
  have HS1 := Lib.hid (show ((w.alloc (.cells #[.int .i64 k, .int .i64 m, .string s, .slice nm.a nm.n nm.cap, .slice a n cap] 26)).alloc (.cells #[.int .i64 0, .int .i64 0, .string ⟨#[]⟩, .slice none 0 0, .slice none 0 0] 26)).heap.size = w.heap.size + 1 + 1 from by simp only [World.size_alloc])
  have hra : ((w.alloc (.cells #[.int .i64 k, .int .i64 m, .string s, .slice nm.a nm.n nm.cap, .slice a n cap] 26)).alloc (.cells #[.int .i64 0, .int .i64 0, .string ⟨#[]⟩, .slice none 0 0, .slice none 0 0] 26)).rangeAt gx ox r.cells := fun j u hj => hrd _ (hb1.block gx (by omega)) j u (by rw [hr]; exact hj)
  have HRA := Lib.hid hra
  have HB1 := Lib.hid hb1
  clear hrd hgx hra hb1
  rw [list5]
  go_enter Tryz.func37, Tryz.ntmps37
  go_upto_region 1 with fail
  generalize (w.alloc (.cells #[.int .i64 k, .int .i64 m, .string s, .slice nm.a nm.n nm.cap, .slice a n cap] 26)).alloc (.cells #[.int .i64 0, .int .i64 0, .string ⟨#[]⟩, .slice none 0 0, .slice none 0 0] 26) = W1 at *
  obtain ⟨b, hb⟩ : ∃ b, w.heap.size = b := ⟨_, rfl⟩
  have HBE := Lib.hid hb
  rw [hb] at HX5 HX6 HS1 ⊢
  clear hb
  go_upto_region 2 with (first | (refine wpList_load_mid rfl 46 (.tmp 17) rfl gx ox rfl r.cells _ HRA.out Tryz.underlying46 rfl (by rw [info_D12A, HO.out.1]) ?_) | (refine wpList_store_new rfl 46 (.tmp 7) (.tmp 18) rfl 12 _ r.cells HO.out.1 (by rfl) info_D12A HO.out.2 rfl rfl ?_))
  (try dsimp only [Act.put])
  have HY7 := Lib.hid (show Bx (W1.alloc (.cells r.cells.toArray 46)) (b + 1 + 1) r.cells.toArray 46 from by have h := Bx.new W1 r.cells.toArray 46; rwa [HS1.out] at h)
  have HY5 := Lib.hid (HX5.out.alloc (.cells r.cells.toArray 46))
  have HY6 := Lib.hid (HX6.out.alloc (.cells r.cells.toArray 46))
  have HS2 := Lib.hid (show (W1.alloc (.cells r.cells.toArray 46)).heap.size = b + 1 + 1 + 1 from by rw [World.size_alloc, HS1.out])
  have HB2 := Lib.hid (HB1.out.alloc HB1.out.size (.cells r.cells.toArray 46))
  have hs1 := HS1.out
  rw [hs1]
  generalize W1.alloc (.cells r.cells.toArray 46) = W2 at *
  clear hs1 HX5 HX6 HS1 HB1 HRA
  have c0 := HY5.out.cell 0 (v := .int .i64 k) rfl
  have c1 := HY5.out.cell 1 (v := .int .i64 m) rfl
  have c2 := HY5.out.cell 2 (v := .string s) rfl
  go_upto_region 3 with (refine wpList_store_new rfl 26 (.tmp 8) (.tmp 25) rfl 5 _ [.int .i64 k, .int .i64 m, .string s, .slice none 0 0, .slice none 0 0] rfl (by rfl) info_V (by simp [Value.oneCell']) rfl rfl ?_)
  (try dsimp only [Act.put])
  have HZ8 := Lib.hid (show Bx (W2.alloc (.cells #[.int .i64 k, .int .i64 m, .string s, .slice none 0 0, .slice none 0 0] 26)) (b + 1 + 1 + 1) #[.int .i64 k, .int .i64 m, .string s, .slice none 0 0, .slice none 0 0] 26 from by have h := Bx.new W2 #[.int .i64 k, .int .i64 m, .string s, .slice none 0 0, .slice none 0 0] 26; rwa [HS2.out] at h)
  have HZ7 := Lib.hid (HY7.out.alloc (.cells #[.int .i64 k, .int .i64 m, .string s, .slice none 0 0, .slice none 0 0] 26))
  have HZ6 := Lib.hid (HY6.out.alloc (.cells #[.int .i64 k, .int .i64 m, .string s, .slice none 0 0, .slice none 0 0] 26))
  have HZ5 := Lib.hid (HY5.out.alloc (.cells #[.int .i64 k, .int .i64 m, .string s, .slice none 0 0, .slice none 0 0] 26))
  have HS3 := Lib.hid (show (W2.alloc (.cells #[.int .i64 k, .int .i64 m, .string s, .slice none 0 0, .slice none 0 0] 26)).heap.size = b + 4 from by rw [World.size_alloc, HS2.out])
  have HB3 := Lib.hid (HB2.out.alloc HB2.out.size (.cells #[.int .i64 k, .int .i64 m, .string s, .slice none 0 0, .slice none 0 0] 26))
  have hs2 := HS2.out
  rw [hs2]
  generalize W2.alloc (.cells #[.int .i64 k, .int .i64 m, .string s, .slice none 0 0, .slice none 0 0] 26) = W3 at *
  clear hs2 HY5 HY6 HY7 HS2 HB2 c0 c1 c2

  have e8 : (r.kind == 8) = false := beq_eq_false_iff_ne.2 (by rw [HRE.out.symm]; exact h8)
  have e9 : (r.kind == 9) = false := beq_eq_false_iff_ne.2 (by rw [HRE.out.symm]; exact h9)
  have e10 : (r.kind == 10) = false := beq_eq_false_iff_ne.2 (by rw [HRE.out.symm]; exact h10)
  have c27 := HZ7.out.cell 0 (v := .int .i64 r.kind) rfl
  generalize r.kind = K at *
  clear hr h8 h9 h10 hd hB hi
  go_wp2_with (first
    | (refine wpList_load_mid rfl 26 (.tmp 8) rfl (b + 1 + 1 + 1) 0 rfl [.int .i64 k, .int .i64 m, .string s, .slice none 0 0, .slice none 0 0] _ HZ8.out.range Tryz.underlying26 rfl (by rw [info_V]; rfl) ?_)
    | (refine wpList_store_bx rfl 26 (.tmp 6) (.tmp 168) rfl 5 (b + 1) _ [.int .i64 k, .int .i64 m, .string s, .slice none 0 0, .slice none 0 0] HZ6.out (by rfl) (by rfl) info_V (by simp [Value.oneCell']) rfl rfl ?_; intro w10 hz10 hx10 hb10 ho10; have HX10 := Lib.hid hx10; have HB10 := Lib.hid (HB3.out.trans (hb10.mono (by have := HBE.out; omega))); clear hz10 hx10 hb10 ho10))

  refine bodyPost_ret (v := .agg #[.int .i64 k, .int .i64 m, .string s, .slice none 0 0, .slice none 0 0]) ?_ rfl ⟨rfl, HB10.out⟩
  exact results_cell_row (p := 6) rfl _ _ (b + 1) 26 _ (0, 0) _ rfl HX10.out Tryz.underlying26 rfl (by rw [info_V]; rfl)
end Go.Proofs.YtjhecpkdpomkmaaGreat
