/-
  Package bounds: 'admitted', 'Set', 'Size'.
-/
import Derived.Test.YtfnpjdglfaaegaaBdB3
namespace Go.Proofs.Ytfnpjdglfaaegaa
open Go.RowKit Go.Shelf
set_option linter.unusedVariables false
set_option linter.unusedSimpArgs false
set_option maxRecDepth 100000

theorem LIn.cutAt {B : Nat} {W : World} {a : Option Addr} {n cap : Nat} {ch : Nat → CT} (h : LIn B W a n cap ch) {f : Nat} (hf : f ≤ n) : ∃ a1 a2,
    (∀ w, (Instr.slice 22 (.slice a n cap) none (some (.int .i64 (f : Nat))) none).run Try.prog w = .ok (.slice a1 f cap) w) ∧
    (∀ w, (Instr.slice 22 (.slice a n cap) (some (.int .i64 (f : Nat))) none none).run Try.prog w = .ok (.slice a2 (n - f) (cap - f)) w) ∧
    LIn B W a1 f cap ch ∧ LIn B W a2 (n - f) (cap - f) (fun i => ch (f + i)) := by
  have hcap := h.1.1
  have hcap2 := h.1.2.1
  refine ⟨(if cap = 0 then a else a.map (·.add (0 * 6))), (if cap = f then a else a.map (·.add (f * 6))), fun w => ?_, fun w => ?_, ?_, ?_⟩
  · rw [run_slice_h (ht := con_under) (h0 := by omega) (h2 := by omega), con_elem, Try.sizeOf24]
    simp [Result.andThen, sliced]
  · rw [run_slice_l (ht := con_under) (h0 := by omega) (h1 := by omega), con_elem, Try.sizeOf24]
    simp [Result.andThen, sliced]
  · refine ⟨⟨by omega, hcap2, fun e => ?_, fun h0 => ?_⟩, fun i hi => h.2 i (by omega)⟩
    · have : a = none := by
        split at e
        · exact e
        · simpa using e
      have := h.1.2.2.1 this
      omega
    · obtain ⟨g, o, e, hg, hc⟩ := h.1.2.2.2 (by omega)
      subst e
      rw [if_neg (by omega)]
      exact ⟨g, o, by simp [Addr.add_mid], hg, fun i hi => hc i (by omega)⟩
  · rcases Nat.eq_zero_or_pos n with h0 | h0
    · obtain rfl : f = 0 := by omega
      subst h0
      refine ⟨⟨by omega, by omega, fun e => ?_, fun h0 => absurd h0 (by omega)⟩, fun i hi => absurd hi (by omega)⟩
      have : a = none := by
        split at e
        · exact e
        · simpa using e
      have := h.1.2.2.1 this
      omega
    · obtain ⟨g, o, e, hg, hc⟩ := h.1.2.2.2 h0
      subst e
      by_cases hcf : cap = f
      · rw [if_pos hcf]
        exact h.drop hf o (fun h => by omega)
      · rw [if_neg hcf]
        have := h.drop hf (o + f * 6) (fun _ => rfl)
        simpa [Addr.add_mid] using this
/-- the children of a node -/
theorem sz_child {ch : Nat → CT} {n i : Nat} (h : i < n) : (ch i).sz ≤ sumN (fun i => (ch i).sz) n := sumN_le (fun i => (ch i).sz) h
set_option maxHeartbeats 16000000 in
theorem admitted_ok : ∀ (c : CT) (k : Nat), k ≤ 40 → 2 * c.sz ≤ 1000 → AdmOK c k
  | .nil, k, _, _ => fun B w h _ => h.elim
  | .mk op lo hi low high a n cap ch, k, hk, hsz => fun B w hin hB => by
    obtain ⟨hI, hrow, hch⟩ := hin
    have hl : LIn B w a n cap ch := ⟨hrow, hch⟩
    have hb0 : Below w.heap.size w (w.alloc (.cells #[.int .i64 op, .int .i64 lo, .int .i64 hi, .bool low, .bool high, .slice a n cap] 24)) := (Below.refl _ _).alloc (Nat.le_refl _) _
    have hbx := Bx.new w #[.int .i64 op, .int .i64 lo, .int .i64 hi, .bool low, .bool high, .slice a n cap] 24
    have HB0 := Lib.hid hb0
    have HX0 := Lib.hid hbx
    clear hb0 hbx hrow hch
    show Calls _ _ #[.agg #[.int .i64 op, .int .i64 lo, .int .i64 hi, .bool low, .bool high, .slice a n cap], .int .i64 (k : Nat)] w _
    have HNO := Lib.hid (show ∀ (w' : World) (p : Int → Prop), (∀ x, I64 x → ¬ p x) → OwnA w.heap.size w' (.slice none 0 0) p (2 * (CT.mk op lo hi low high a n cap ch).sz) [] from fun w' p hp => ⟨OwnR.nil _ _, Bd.nil, fun x hx => ⟨fun h => absurd h mem_nil, fun h => absurd h (hp x hx)⟩, by simp⟩)
    rcases Nat.eq_zero_or_pos k with hk0 | hk0
    · subst hk0
      have HF := Lib.hid (HNO.out (w.alloc (.cells #[.int .i64 op, .int .i64 lo, .int .i64 hi, .bool low, .bool high, .slice a n cap] 24)) (fun x => adm (CT.mk op lo hi low high a n cap ch) 0 x = true) (fun x _ => by rw [adm_zero]; simp))
      generalize (fun x => adm (CT.mk op lo hi low high a n cap ch) 0 x = true) = p at *
      generalize 2 * (CT.mk op lo hi low high a n cap ch).sz = K at *
      clear hl hI hB hsz hk HNO
      go_enter Try.func31, Try.ntmps31
      go_wp2_with fail
      go_ret
      exact ⟨_, _, rfl, HF.out, HB0.out⟩
    obtain ⟨j, rfl⟩ : ∃ j, k = j + 1 := ⟨k - 1, by omega⟩
    have hszc := CT.sz_mk op lo hi low high a n cap ch
    have hadm : ∀ i, i < n → AdmOK (ch i) j := fun i hi => admitted_ok (ch i) j (by omega) (by have := sz_child (ch := ch) hi; omega)
    have hs : 2 * sumN (fun i => (ch i).sz) n ≤ 1000 := by omega
    have hsub : (fun i => (ch i).sz) = (fun i => (ch i).sz) := rfl
    obtain ⟨K, hK⟩ : ∃ K, 2 * (CT.mk op lo hi low high a n cap ch).sz = K := ⟨_, rfl⟩
    have HK := Lib.hid (show K = 2 + 2 * sumN (fun i => (ch i).sz) n by omega)
    rw [hK] at HNO ⊢
    obtain ⟨d, hd⟩ : ∃ d : Nat, j + 1 = d := ⟨_, rfl⟩
    have qd0 : ((d : Int) == 0) = false := beq_false_of_ne (by omega)
    have qd0n : (d == 0) = false := beq_false_of_ne (by omega)
    have QS := Lib.hid (show IntKind.i64.wrap ((d : Int) - 1) = (j : Int) from (wrap_ok (by unfold I64; omega)).trans (by omega))
    have hBw : B ≤ w.heap.size := hB
    clear hK hszc hsz hk hk0 hsub
    by_cases h0 : op = 0
    · subst h0
      have HP := Lib.hid (show ∀ (w1 w' : World) (v : Value), OwnR w1.heap.size w' v wholeL → w.heap.size ≤ w1.heap.size → OwnA w.heap.size w' v (fun x => adm (CT.mk 0 lo hi low high a n cap ch) (j + 1) x = true) K wholeL from fun w1 w' v h hs => ⟨h.base hs, wholeL_bd, fun x hx => by show _ ↔ adm (CT.mk 0 lo hi low high a n cap ch) (j + 1) x = true; rw [adm_all, wholeL_says.2.2 x hx]; simp, by have := HK.out; simp [wholeL]; omega⟩)
      generalize (fun x => adm (CT.mk 0 lo hi low high a n cap ch) (j + 1) x = true) = p at *
      rw [hd]
      have HC := Lib.hid (Whole_own (w.alloc (.cells #[.int .i64 0, .int .i64 lo, .int .i64 hi, .bool low, .bool high, .slice a n cap] 24)))
      clear hl hI hB hBw hs hadm hd HNO
      go_enter Try.func31, Try.ntmps31
      go_wp2_with fail
      refine HC.out.mono ?_
      rintro e w1 ⟨v, rfl, h1, h2⟩
      obtain ⟨sv, nv, cv, rfl⟩ := h1.shape
      have HF := Lib.hid (HP.out _ _ _ h1 HB0.out.size)
      have HB1 := Lib.hid (HB0.out.trans (h2.mono HB0.out.size))
      clear h1 h2 HC
      go_wp2_with fail
      go_ret
      exact ⟨_, _, rfl, HF.out, HB1.out⟩
    by_cases h1 : op = 1
    · subst h1
      obtain ⟨lo', hlo⟩ : ∃ lo', (if low then -9223372036854775808 else lo) = lo' := ⟨_, rfl⟩
      obtain ⟨hi', hhi⟩ : ∃ hi', (if high then 9223372036854775807 else hi) = hi' := ⟨_, rfl⟩
      have hi1 : I64 lo' := by
        rw [← hlo]
        split
        · unfold I64; omega
        · exact hI.2.1
      have hi2 : I64 hi' := by
        rw [← hhi]
        split
        · unfold I64; omega
        · exact hI.2.2
      have HP := Lib.hid (show ∀ (w1 w' : World) (v : Value), OwnR w1.heap.size w' v [(lo', hi')] → w.heap.size ≤ w1.heap.size → OwnA w.heap.size w' v (fun x => adm (CT.mk 1 lo hi low high a n cap ch) (j + 1) x = true) K [(lo', hi')] from fun w1 w' v h hs => ⟨h.base hs, Bd.cons.2 ⟨⟨hi1, hi2⟩, Bd.nil⟩, fun x hx => by
        show _ ↔ adm (CT.mk 1 lo hi low high a n cap ch) (j + 1) x = true
        rw [adm_span, mem_one]
        simp only [Bool.and_eq_true, Bool.or_eq_true, decide_eq_true_eq]
        refine and_congr ?_ ?_
        · show lo' ≤ x ↔ _
          rw [← hlo]
          unfold I64 at hx
          cases low <;> simp <;> omega
        · show x ≤ hi' ↔ _
          rw [← hhi]
          unfold I64 at hx
          cases high <;> simp <;> omega, by have := HK.out; simp; omega⟩)
      generalize (fun x => adm (CT.mk 1 lo hi low high a n cap ch) (j + 1) x = true) = p at *
      rw [hd]
      have HC := Lib.hid (between_ok (w.alloc (.cells #[.int .i64 1, .int .i64 lo, .int .i64 hi, .bool low, .bool high, .slice a n cap] 24)) 1 lo hi low high a n cap)
      rw [hlo, hhi] at HC
      clear hl hI hB hBw hs hadm hd HNO h0 hi1 hi2 hlo hhi
      go_enter Try.func31, Try.ntmps31
      go_wp2_with fail
      refine HC.out.mono ?_
      rintro e w1 ⟨rfl, h2⟩
      have HB1 := Lib.hid (HB0.out.trans (h2.mono HB0.out.size))
      have HL := Lib.hid (own_lit w1 [(lo', hi')] (by simp) #[.int .i64 lo', .int .i64 hi'] rfl 1 rfl)
      have HF := Lib.hid (HP.out _ _ _ HL.out HB1.out.size)
      have HB2 := Lib.hid (HB1.out.alloc HB1.out.size (.cells #[.int .i64 lo', .int .i64 hi'] 51))
      clear h2 HC
      go_wp2_with fail
      go_ret
      exact ⟨_, _, rfl, HF.out, HB2.out⟩
    by_cases h2 : op = 2
    · subst h2
      have HC := Lib.hid (byOne_ok j w.heap.size (w.alloc (.cells #[.int .i64 2, .int .i64 lo, .int .i64 hi, .bool low, .bool high, .slice a n cap] 24)) a n cap ch ((hl.below (Below.refl _ _) hB).below HB0.out (Nat.le_refl _)) HB0.out.size hs hadm)
      have HP := Lib.hid (show ∀ (w1 w' : World) (v : Value) (r : List Rg), OwnA w1.heap.size w' v (fun x => foldU true (fun i => adm (ch i) j x) n = true) (2 * sumN (fun i => (ch i).sz) n) r → w.heap.size ≤ w1.heap.size → OwnA w.heap.size w' v (fun x => adm (CT.mk 2 lo hi low high a n cap ch) (j + 1) x = true) K r from fun w1 w' v r h hs => (h.base hs).cast (fun x _ => by show _ ↔ adm (CT.mk 2 lo hi low high a n cap ch) (j + 1) x = true; rw [adm_union]; rfl) (by have := HK.out; omega))
      generalize (fun x => adm (CT.mk 2 lo hi low high a n cap ch) (j + 1) x = true) = p at *
      generalize (fun x => foldU true (fun i => adm (ch i) j x) n = true) = p2 at *
      have qs := QS.out
      rw [hd]
      clear hl hI hB hBw hs hadm hd HNO h0 h1
      go_enter Try.func31, Try.ntmps31
      go_wp2_with fail
      refine HC.out.mono ?_
      rintro e w1 ⟨v, r, rfl, h1, h2⟩
      obtain ⟨sv, nv, cv, rfl⟩ := h1.1.shape
      have HF := Lib.hid (HP.out _ _ _ _ h1 HB0.out.size)
      have HB1 := Lib.hid (HB0.out.trans (h2.mono HB0.out.size))
      clear h1 h2 HC
      go_wp2_with fail
      go_ret
      exact ⟨_, _, rfl, HF.out, HB1.out⟩
    by_cases h3 : op = 3
    · subst h3
      have HC := Lib.hid (byAll_ok j w.heap.size (w.alloc (.cells #[.int .i64 3, .int .i64 lo, .int .i64 hi, .bool low, .bool high, .slice a n cap] 24)) a n cap ch ((hl.below (Below.refl _ _) hB).below HB0.out (Nat.le_refl _)) HB0.out.size hs hadm)
      have HP := Lib.hid (show ∀ (w1 w' : World) (v : Value) (r : List Rg), OwnA w1.heap.size w' v (fun x => foldU false (fun i => adm (ch i) j x) n = true) (bA (fun i => (ch i).sz) n) r → w.heap.size ≤ w1.heap.size → OwnA w.heap.size w' v (fun x => adm (CT.mk 3 lo hi low high a n cap ch) (j + 1) x = true) K r from fun w1 w' v r h hs => (h.base hs).cast (fun x _ => by show _ ↔ adm (CT.mk 3 lo hi low high a n cap ch) (j + 1) x = true; rw [adm_meet]; rfl) (by have := HK.out; unfold bA; split <;> omega))
      generalize (fun x => adm (CT.mk 3 lo hi low high a n cap ch) (j + 1) x = true) = p at *
      generalize (fun x => foldU false (fun i => adm (ch i) j x) n = true) = p2 at *
      have qs := QS.out
      rw [hd]
      clear hl hI hB hBw hs hadm hd HNO h0 h1 h2
      go_enter Try.func31, Try.ntmps31
      go_wp2_with fail
      refine HC.out.mono ?_
      rintro e w1 ⟨v, r, rfl, h1, h2⟩
      obtain ⟨sv, nv, cv, rfl⟩ := h1.1.shape
      have HF := Lib.hid (HP.out _ _ _ _ h1 HB0.out.size)
      have HB1 := Lib.hid (HB0.out.trans (h2.mono HB0.out.size))
      clear h1 h2 HC
      go_wp2_with fail
      go_ret
      exact ⟨_, _, rfl, HF.out, HB1.out⟩
    by_cases h4 : op = 4
    · subst h4
      obtain ⟨f, hf⟩ : ∃ f, min 1 n = f := ⟨_, rfl⟩
      have hfn : f ≤ n := by omega
      obtain ⟨a1, a2, hs1, hs2, hl1, hl2⟩ := hl.cutAt hfn
      have hcut := sumN_cut (fun i => (ch i).sz) f n hfn
      obtain ⟨m, hm⟩ : ∃ m, n - f = m := ⟨_, rfl⟩
      obtain ⟨cm, hcm⟩ : ∃ cm, cap - f = cm := ⟨_, rfl⟩
      rw [hm] at hcut hs2 hl2
      rw [hcm] at hs2 hl2
      have HA := Lib.hid (fun (w1 : World) (hb : Below w.heap.size w w1) => byAll_ok j w.heap.size w1 a1 f cap ch ((hl1.below (Below.refl _ _) hB).below hb (Nat.le_refl _)) hb.size (by omega) (fun i hi => hadm i (by omega)))
      have HO := Lib.hid (fun (w1 : World) (hb : Below w.heap.size w w1) => byOne_ok j w.heap.size w1 a2 m cm (fun i => ch (f + i)) ((hl2.below (Below.refl _ _) hB).below hb (Nat.le_refl _)) hb.size (by omega) (fun i hi => hadm (f + i) (by omega)))
      have HP := Lib.hid (show ∀ (w2 w' : World) (v : Value) (ra rb r : List Rg), (∀ x, I64 x → (mem ra x ↔ foldU false (fun i => adm (ch i) j x) f = true)) → (∀ x, I64 x → (mem rb x ↔ foldU true (fun i => adm (ch (f + i)) j x) m = true)) → ra.length ≤ bA (fun i => (ch i).sz) f → rb.length ≤ 2 * sumN (fun i => (ch (f + i)).sz) m →
          AnsO w2.heap.size w' v (fun x => mem ra x ∧ ¬ mem rb x) (ra.length + (rb.length + 1)) r → w.heap.size ≤ w2.heap.size → OwnA w.heap.size w' v (fun x => adm (CT.mk 4 lo hi low high a n cap ch) (j + 1) x = true) K r from fun w2 w' v ra rb r e1 e2 e3 e4 h hs => (h.ownA.base hs).cast (fun x hx => by
        show _ ↔ adm (CT.mk 4 lo hi low high a n cap ch) (j + 1) x = true
        rw [adm_except, except_iff, hf, hm]
        exact and_congr (e1 x hx) (not_congr (e2 x hx))) (by
          have := HK.out
          unfold bA at e3
          split at e3 <;> omega))
      have HSZ := Lib.hid (show bA (fun i => (ch i).sz) f ≤ 1000 ∧ 2 * sumN (fun i => (ch (f + i)).sz) m ≤ 1000 by unfold bA; split <;> omega)
      have qmin : min (1 : Int) (n : Int) = (f : Int) := by omega
      have c5 := HX0.out.cell 5 rfl
      have HS := Lib.hid (show ∀ w', Below (w.alloc (.cells #[.int .i64 4, .int .i64 lo, .int .i64 hi, .bool low, .bool high, .slice a n cap] 24)).heap.size (w.alloc (.cells #[.int .i64 4, .int .i64 lo, .int .i64 hi, .bool low, .bool high, .slice a n cap] 24)) w' → w'.cell? ⟨w.heap.size, 5, none⟩ = some (.slice a n cap) from fun w' hb => (HX0.out.below hb HX0.out.lt).cell 5 rfl)
      generalize (fun x => adm (CT.mk 4 lo hi low high a n cap ch) (j + 1) x = true) = p at *
      have qs := QS.out
      rw [hd]
      clear hl hI hB hBw hs hadm hd HNO h0 h1 h2 h3 hcut hl1 hl2 hf hfn hm hcm
      go_enter Try.func31, Try.ntmps31
      go_wp2_with fail
      generalize w.alloc (.cells #[.int .i64 4, .int .i64 lo, .int .i64 hi, .bool low, .bool high, .slice a n cap] 24) = W at *
      have HBW := Lib.hid (Below.drew (Below.refl W.heap.size W))
      have HBd := Lib.hid (HB0.out.trans (HBW.out.mono HB0.out.size))
      have HS0 := Lib.hid (HS.out _ HBW.out)
      go_region_held3 (fun w' => w'.cell? ⟨w.heap.size, 5, none⟩ = some (.slice a n cap)) (first | with_reducible exact HS3.out | with_reducible exact HS2.out | with_reducible exact HS1.out | with_reducible exact HS0.out) (first
        | (go_at_call 49; (with_reducible refine (HA.out _ HBd.out).mono ?_); rintro e w1 ⟨va, ra, rfl, h1, h2⟩; have HA1 := Lib.hid h1; have HBW1 := Lib.hid (HBW.out.trans h2); have HS1 := Lib.hid (HS.out _ HBW1.out); have HB1 := Lib.hid (HB0.out.trans (HBW1.out.mono HB0.out.size)); clear h1 h2)
        | (go_at_call 48; (with_reducible refine (HO.out _ HB1.out).mono ?_); rintro e w2 ⟨vb, rb, rfl, h1, h2⟩; have HA2 := Lib.hid h1; have HA3 := Lib.hid (HA1.out.below h2); have HBW2 := Lib.hid (HBW1.out.trans (h2.mono HBW1.out.size)); have HS2 := Lib.hid (HS.out _ HBW2.out); have HB2 := Lib.hid (HB0.out.trans (HBW2.out.mono HB0.out.size)); have HC := Lib.hid (Minus_own w2 va vb ra rb HA3.out.rsl HA2.out.rsl (Nat.le_trans (Nat.le_trans HA3.out.2.2.2 HSZ.out.1) (by decide)) (Nat.le_trans (Nat.le_trans HA2.out.2.2.2 HSZ.out.2) (by decide))); clear h1 h2)
        | (go_at_call 27; (with_reducible refine HC.out.mono ?_); rintro e w3 ⟨v, r, rfl, h1, h2⟩; have HBW3 := Lib.hid (HBW2.out.trans (h2.mono HBW2.out.size)); have HS3 := Lib.hid (HS.out _ HBW3.out); have HF := Lib.hid (HP.out _ _ _ _ _ _ HA3.out.2.2.1 HA2.out.2.2.1 HA3.out.2.2.2 HA2.out.2.2.2 h1 HB2.out.size); have HB3 := Lib.hid (HB0.out.trans (HBW3.out.mono HB0.out.size)); clear h1 h2))
      all_goals go_wp2_with fail
      all_goals go_ret
      all_goals exact ⟨_, r, rfl, HF.out, HB3.out⟩
    · have HF := Lib.hid (HNO.out (w.alloc (.cells #[.int .i64 op, .int .i64 lo, .int .i64 hi, .bool low, .bool high, .slice a n cap] 24)) (fun x => adm (CT.mk op lo hi low high a n cap ch) (j + 1) x = true) (fun x _ => by rw [adm_other op lo hi low high a n cap ch j x h0 h1 h2 h3 h4]; simp))
      generalize (fun x => adm (CT.mk op lo hi low high a n cap ch) (j + 1) x = true) = p at *
      have z0 : (op == 0) = false := beq_false_of_ne h0
      have z1 : (op == 1) = false := beq_false_of_ne h1
      have z2 : (op == 2) = false := beq_false_of_ne h2
      have z3 : (op == 3) = false := beq_false_of_ne h3
      have z4 : (op == 4) = false := beq_false_of_ne h4
      rw [hd]
      clear hl hI hB hBw hs hadm hd HNO h0 h1 h2 h3 h4
      go_enter Try.func31, Try.ntmps31
      go_wp2_with fail
      go_ret
      exact ⟨_, _, rfl, HF.out, HB0.out⟩
end Go.Proofs.Ytfnpjdglfaaegaa
