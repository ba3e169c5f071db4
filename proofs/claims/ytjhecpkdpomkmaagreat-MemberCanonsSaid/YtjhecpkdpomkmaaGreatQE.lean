/-
  A bundle of texts, one behind the other: SpC, SpD, SpA.
-/
import Derived.Test.YtjhecpkdpomkmaaGreatQD
import Derived.BigRegion
import Derived.Deep.CutRange
namespace Go.Proofs.YtjhecpkdpomkmaaGreat
open Go.RowKit Go.Shelf
set_option linter.unusedVariables false
set_option linter.unusedSimpArgs false
set_option maxRecDepth 100000

def slLenS : Value → Nat
  | .slice _ n _ => n
  | _ => 0
theorem RSl.tail {w : World} {g o cap n : Nat} {r : Rg} {t : List Rg} (h : RSl w (.slice (some ⟨g, o, none⟩) n cap) (r :: t)) (hn : n = t.length + 1) : RSl w (.slice (some ⟨g, o + 2, none⟩) (n - 1) (cap - 1)) t := by
  refine ⟨(Bd.cons.1 h.1).2, ?_⟩
  obtain ⟨g', o', cap', e, hc, _, hd⟩ := h.at (by simp)
  simp only [Value.slice.injEq, Option.some.injEq, Addr.mk.injEq, List.length_cons] at e
  obtain ⟨⟨rfl, rfl, _⟩, e1, rfl⟩ := e
  refine .inl ⟨g, o + 2, cap - 1, by rw [hn]; rfl, by simp at hc; omega, fun i hi => ?_⟩
  have := hd (i + 1) (by simp; omega)
  rw [show (r :: t)[i + 1]! = t[i]! by simp] at this
  rw [show o + 2 + i * 2 = o + (i + 1) * 2 by omega]
  exact this
theorem RSl.tailS {w : World} {g o cap n : Nat} {r : Rg} {t : List Rg} (h : RSl w (.slice (some ⟨g, o, none⟩) (n + 1) (cap + 1)) (r :: t)) (hn : t.length + 1 = n + 1) : RSl w (.slice (some ⟨g, o + 2, none⟩) n cap) t := by
  have := h.tail hn.symm
  simpa using this
theorem RSl.tailZ {w : World} {g o n : Nat} {r : Rg} {t : List Rg} (h : RSl w (.slice (some ⟨g, o, none⟩) (n + 1) (0 + 1)) (r :: t)) (hn : t.length + 1 = n + 1) : RSl w (.slice (some ⟨g, o, none⟩) n 0) t ∧ n = 0 := by
  obtain ⟨g', o', cap', e, hc, _, hd⟩ := h.at (by simp)
  simp only [Value.slice.injEq, List.length_cons] at e hc
  have hn0 : n = 0 := by omega
  subst hn0
  obtain rfl : t = [] := List.length_eq_zero_iff.1 (by omega)
  exact ⟨⟨Bd.nil, .inr ⟨rfl, _, _, rfl⟩⟩, rfl⟩
/-- the first element, in every later world -/
theorem RSl.hd {w : World} {v : Value} {r : Rg} {t : List Rg} (h : RSl w v (r :: t)) : ∃ g o cap, v = .slice (some ⟨g, o, none⟩) (t.length + 1) cap ∧ t.length + 1 ≤ cap ∧ g < w.heap.size ∧ ∀ W, Below w.heap.size w W → W.cell? ⟨g, o, none⟩ = some (.int .i64 r.1) ∧ W.cell? ⟨g, o + 1, none⟩ = some (.int .i64 r.2) := by
  obtain ⟨g, o, cap, e, hc, hg, hd⟩ := h.at (by simp)
  refine ⟨g, o, cap, e, hc, hg, fun W hW => ?_⟩
  have := hd 0 (by simp)
  rw [Nat.zero_mul, Nat.add_zero] at this
  rw [← show W.cell? ⟨g, o, none⟩ = w.cell? ⟨g, o, none⟩ from World.cell?_of_block (w := w) (hW.block g hg), ← show W.cell? ⟨g, o + 1, none⟩ = w.cell? ⟨g, o + 1, none⟩ from World.cell?_of_block (w := w) (hW.block g hg)] at this
  exact this
def RelC (w : World) (R : List Rg) (K : Nat) (av bv lv : Value) (wr : World) : Prop :=
  ∃ (A B acc : List Rg) (sa sb : Option Addr) (ca cb na nb : Nat), av = .slice sa na ca ∧ bv = .slice sb nb cb ∧ A.length = na ∧ B.length = nb ∧ RSl w av A ∧ RSl w bv B ∧ acc ++ cmn A B = R ∧ acc.length + na + nb ≤ K ∧ OwnR w.heap.size wr lv acc ∧ Below w.heap.size w wr
theorem drewN_below (w : World) (n : Nat) : Below w.heap.size w (w.drewN n) := ⟨rfl, rfl, rfl, Nat.le_refl _, fun _ _ => rfl⟩
set_option maxHeartbeats 4000000 in
theorem common_ok (w : World) (sa sb : Option Addr) (na nb ca cb : Nat) (A B : List Rg) (ha : RSl w (.slice sa na ca) A) (hb : RSl w (.slice sb nb cb) B) (hna : A.length = na) (hnb : B.length = nb) (hn : na + nb ≤ 1000000000) :
    Calls Tryz.prog 262 #[.slice sa na ca, .slice sb nb cb] w fun e w' => ∃ v, e = .returned v ∧ OwnR w.heap.size w' v (cmn A B) ∧ Below w.heap.size w w' := by
  obtain ⟨i0, hi0, hz0, hz1, hz2⟩ := info_parts info_rg
  obtain ⟨R, hR⟩ : ∃ R, cmn A B = R := ⟨_, rfl⟩
  rw [hR]
  have H0 := Lib.hid (show RelC w R (na + nb) (.slice sa na ca) (.slice sb nb cb) (.slice none 0 0) w from ⟨A, B, [], sa, sb, ca, cb, na, nb, rfl, rfl, hna, hnb, ha, hb, hR, by simp, OwnR.nil _ _, Below.refl _ _⟩)
  obtain ⟨K, hK⟩ : ∃ K, na + nb = K := ⟨_, rfl⟩
  rw [hK] at H0 hn
  clear ha hb hR hna hnb hK
  go_enter Tryz.func262, Tryz.ntmps262
  go_wp2_with fail
  go_loopw [0, 1, 5] (fun av bv lv wr => RelC w R K av bv lv wr) (fun av bv _ _ => slLenS av + slLenS bv)
  case atStart => exact H0.out
  case round =>
    clear H0
    obtain ⟨A, B, acc, sa, sb, ca, cb, na, nb, rfl, rfl, hna, hnb, ha, hb, hR, hk, hown, hbel⟩ := hrel
    have HO := Lib.hid hown
    have HB := Lib.hid hbel
    have HR := Lib.hid hR
    clear hown hbel hR
    cases A with
    | nil =>
      obtain rfl : na = 0 := hna.symm
      rw [cmn_nil, List.append_nil] at HR
      clear ha hb hnb
      go_wp2_with fail
      go_ret
      rw [← HR.out]
      exact ⟨_, rfl, HO.out, HB.out⟩
    | cons a ta =>
      cases B with
      | nil =>
        obtain rfl : nb = 0 := hnb.symm
        rw [cmn_nil2, List.append_nil] at HR
        have q1 : decide (0 < (na : Int)) = true := decide_eq_true (by have := hna; simp at this; omega)
        have q1n : decide (0 < na) = true := decide_eq_true (by have := hna; simp at this; omega)
        clear ha hb hna hk
        go_wp2_with fail
        go_ret
        rw [← HR.out]
        exact ⟨_, rfl, HO.out, HB.out⟩
      | cons b tb =>
        obtain ⟨a1, a2⟩ := a
        obtain ⟨b1, b2⟩ := b
        have HTA := Lib.hid ha
        have HTB := Lib.hid hb
        obtain ⟨ga, oa, ca', ea, hca, hga, hda⟩ := ha.hd
        obtain ⟨gb, ob, cb', eb, hcb, hgb, hdb⟩ := hb.hd
        simp only [List.length_cons] at hna hnb
        rw [hna] at ea hca
        rw [hnb] at eb hcb
        obtain ⟨rfl, -, rfl⟩ : sa = some ⟨ga, oa, none⟩ ∧ na = na ∧ ca = ca' := by simpa using ea
        obtain ⟨rfl, -, rfl⟩ : sb = some ⟨gb, ob, none⟩ ∧ nb = nb ∧ cb = cb' := by simpa using eb
        obtain ⟨na, rfl⟩ : ∃ n1, na = n1 + 1 := ⟨na - 1, by omega⟩
        obtain ⟨nb, rfl⟩ : ∃ n1, nb = n1 + 1 := ⟨nb - 1, by omega⟩
        obtain ⟨ca, rfl⟩ : ∃ n1, ca = n1 + 1 := ⟨ca - 1, by omega⟩
        obtain ⟨cb, rfl⟩ : ∃ n1, cb = n1 + 1 := ⟨cb - 1, by omega⟩
        have q1 : decide (0 < (na : Int) + 1) = true := decide_eq_true (by omega)
        have q1n : decide (0 < na + 1) = true := decide_eq_true (by omega)
        have q2 : decide (0 < (nb : Int) + 1) = true := decide_eq_true (by omega)
        have q2n : decide (0 < nb + 1) = true := decide_eq_true (by omega)
        have x1 : (0 : Int) < (na : Int) + 1 := by omega
        have x1n : 0 < na + 1 := by omega
        have x2 : (0 : Int) < (nb : Int) + 1 := by omega
        have x2n : 0 < nb + 1 := by omega
        have HDA := Lib.hid hda
        have HDB := Lib.hid hdb
        obtain ⟨c1, c2⟩ := hda wr HB.out
        obtain ⟨c3, c4⟩ := hdb wr HB.out
        simp only at c1 c2 c3 c4
        have hg1 : ga < wr.heap.size := Nat.lt_of_lt_of_le hga HB.out.size
        have hg2 : gb < wr.heap.size := Nat.lt_of_lt_of_le hgb HB.out.size
        rw [cmn_cons] at HR
        simp only at HR
        obtain ⟨lo, hlo⟩ : ∃ lo, max a1 b1 = lo := ⟨_, rfl⟩
        obtain ⟨hi, hhi⟩ : ∃ hi, min a2 b2 = hi := ⟨_, rfl⟩
        rw [hlo, hhi] at HR
        clear hda hdb ea eb ha hb
        go_wp2_with fail
        go_cut [6] from 7 to 53 (fun p wx => p = .pointer (some ⟨wr.heap.size, 0, none⟩) ∧ wx = (wr.alloc (.cells #[.int .i64 lo, .int .i64 hi] 66)).drew)
        case first =>
          go_region
          go_wp2_with fail
          go_meet
          exact ⟨rfl, rfl⟩
        obtain ⟨rfl, rfl⟩ := hcut
        have hb1 := ((Below.refl wr.heap.size wr).alloc (Nat.le_refl _) (.cells #[.int .i64 lo, .int .i64 hi] 66)).drew
        have f1 : ((wr.alloc (.cells #[.int .i64 lo, .int .i64 hi] 66)).drew).cell? ⟨wr.heap.size, 0, none⟩ = some (.int .i64 lo) := by show (wr.alloc _).cell? _ = _; simp
        have f2 : ((wr.alloc (.cells #[.int .i64 lo, .int .i64 hi] 66)).drew).cell? ⟨wr.heap.size, 1, none⟩ = some (.int .i64 hi) := by show (wr.alloc _).cell? _ = _; simp
        have f3 : wr.heap.size < ((wr.alloc (.cells #[.int .i64 lo, .int .i64 hi] 66)).drew).heap.size := by show _ < (wr.alloc _).heap.size; simp
        have HO1 := Lib.hid (HO.out.below hb1)
        have HB1 := Lib.hid (HB.out.trans (hb1.mono HB.out.size))
        clear hb1 c1 c2 c3 c4 HO HB
        generalize (wr.alloc (.cells #[.int .i64 lo, .int .i64 hi] 66)).drew = W1 at *
        generalize wr.heap.size = bb at *
        go_wp2_with fail
        refine (isEmpty_ok lo hi W1).mono ?_
        rintro e w3 ⟨rfl, hb⟩
        have HO3 := Lib.hid (HO1.out.below hb)
        have HB3 := Lib.hid (HB1.out.trans (hb.mono HB1.out.size))
        have g1 := (hb.cell (p := ⟨bb, 0, none⟩) f3).trans f1
        have g2 := (hb.cell (p := ⟨bb, 1, none⟩) f3).trans f2
        obtain ⟨c1, c2⟩ := HDA.out w3 HB3.out
        obtain ⟨c3, c4⟩ := HDB.out w3 HB3.out
        clear hb f1 f2 f3 HO1 HB1
        by_cases he : lo ≤ hi
        · have e1 : decide (hi < lo) = false := decide_eq_false (by omega)
          rw [e1]
          rw [if_pos he, ← List.append_assoc] at HR
          have hbw := HB3.out.size
          have hal : acc.length ≤ 1000000000 := by omega
          have HNA := Lib.hid hna
          have HNB := Lib.hid hnb
          have HKK := Lib.hid hk
          have HCC := Lib.hid (And.intro hca hcb)
          have HX1 := Lib.hid (And.intro x1 x1n)
          have HX2 := Lib.hid (And.intro x2 x2n)
          clear c1 c2 c3 c4 hna hnb hk hlo hhi q1 q1n q2 q2n x1 x1n x2 x2n hca hcb hga hgb
          go_wp2_with (at_builtin; refine wpList_append_own _ rfl (.tmp 37) (.tmp 39) 42 rfl w.heap.size 66 i0 rgZero 2 16 Tryz.underlying42 hi0 hz0 hz1 hz2 rfl (by decide) _ acc.length (rcells acc) rfl (World.ownsRow.alloc HO3.out _) ⟨w3.heap.size, 0, none⟩ 1 1 [.int .i64 lo, .int .i64 hi] rfl rfl (new_rg _ _ _) (one_rg lo hi) (by unfold maxLen; omega) (by omega) (by simp; omega) ?_; intro v' w4 hown4 hgr4 _; have HO4 := Lib.hid (own_snoc hown4); have HB4 := Lib.hid (own_grown HB3.out HO3.out (Nat.le_refl _) HB3.out.size _ hgr4); clear hown4 hgr4)
          obtain ⟨y1, y2⟩ := HDA.out w4 HB4.out
          obtain ⟨y3, y4⟩ := HDB.out w4 HB4.out
          obtain ⟨x1, x1n⟩ := HX1.out
          obtain ⟨x2, x2n⟩ := HX2.out
          clear HO3 HB3 g1 g2 hbw
          by_cases hlt : a2 < b2
          · have q5 : decide (a2 < b2) = true := decide_eq_true hlt
            rw [if_pos hlt] at HR
            go_wp2_with fail
            go_quiet (fail)
            have HO5 := fun nq => Lib.hid (HO4.out.below (drewN_below _ nq))
            have HB5 := fun nq => Lib.hid (HB4.out.trans ((drewN_below _ nq).mono HB4.out.size))
            clear y1 y2 y3 y4
            have hca := HCC.out.1
            have hcb := HCC.out.2
            by_cases hc1 : ca = 0
            · subst hc1
              have HT5 := Lib.hid (HTA.out.tailZ HNA.out)
              obtain rfl := HT5.out.2
              have HT5 := Lib.hid HT5.out.1
              clear HDA HDB hlt he
              go_wp2_with fail
              have hna := HNA.out
              have hnb := HNB.out
              go_roundw
              case rel => exact ⟨ta, (b1, b2) :: tb, acc ++ [(lo, hi)], _, _, _, _, _, _, rfl, rfl, by omega, by simp only [List.length_cons]; omega, HT5.out, HTB.out, HR.out, by have hk := HKK.out; simp only [List.length_append, List.length_singleton]; omega, (HO5 _).out, (HB5 _).out⟩
              case measure => simp only [slLenS]; omega
            · have HT5 := Lib.hid (HTA.out.tailS HNA.out)
              have z1 : (1 : Int) ≤ (na : Int) + 1 := by omega
              have z1n : 1 ≤ na + 1 := by omega
              have z3 : (na : Int) + 1 ≤ (ca : Int) + 1 := by omega
              clear HDA HDB hlt he
              go_wp2_with fail
              have hna := HNA.out
              have hnb := HNB.out
              go_roundw
              case rel => exact ⟨ta, (b1, b2) :: tb, acc ++ [(lo, hi)], _, _, _, _, _, _, rfl, rfl, by omega, by simp only [List.length_cons]; omega, HT5.out, HTB.out, HR.out, by have hk := HKK.out; simp only [List.length_append, List.length_singleton]; omega, (HO5 _).out, (HB5 _).out⟩
              case measure => simp only [slLenS]; omega
          · have q5 : decide (a2 < b2) = false := decide_eq_false hlt
            rw [if_neg hlt] at HR
            go_wp2_with fail
            go_quiet (fail)
            have HO5 := fun nq => Lib.hid (HO4.out.below (drewN_below _ nq))
            have HB5 := fun nq => Lib.hid (HB4.out.trans ((drewN_below _ nq).mono HB4.out.size))
            clear y1 y2 y3 y4
            have hca := HCC.out.1
            have hcb := HCC.out.2
            by_cases hc1 : cb = 0
            · subst hc1
              have HT5 := Lib.hid (HTB.out.tailZ HNB.out)
              obtain rfl := HT5.out.2
              have HT5 := Lib.hid HT5.out.1
              clear HDA HDB hlt he
              go_wp2_with fail
              have hna := HNA.out
              have hnb := HNB.out
              go_roundw
              case rel => exact ⟨(a1, a2) :: ta, tb, acc ++ [(lo, hi)], _, _, _, _, _, _, rfl, rfl, by simp only [List.length_cons]; omega, by omega, HTA.out, HT5.out, HR.out, by have hk := HKK.out; simp only [List.length_append, List.length_singleton]; omega, (HO5 _).out, (HB5 _).out⟩
              case measure => simp only [slLenS]; omega
            · have HT5 := Lib.hid (HTB.out.tailS HNB.out)
              have z1 : (1 : Int) ≤ (nb : Int) + 1 := by omega
              have z1n : 1 ≤ nb + 1 := by omega
              have z3 : (nb : Int) + 1 ≤ (cb : Int) + 1 := by omega
              clear HDA HDB hlt he
              go_wp2_with fail
              have hna := HNA.out
              have hnb := HNB.out
              go_roundw
              case rel => exact ⟨(a1, a2) :: ta, tb, acc ++ [(lo, hi)], _, _, _, _, _, _, rfl, rfl, by simp only [List.length_cons]; omega, by omega, HTA.out, HT5.out, HR.out, by have hk := HKK.out; simp only [List.length_append, List.length_singleton]; omega, (HO5 _).out, (HB5 _).out⟩
              case measure => simp only [slLenS]; omega
        · have e1 : decide (hi < lo) = true := decide_eq_true (by omega)
          rw [e1]
          rw [if_neg he, List.nil_append] at HR
          have y1 := c1
          have y2 := c2
          have y3 := c3
          have y4 := c4
          have HNA := Lib.hid hna
          have HNB := Lib.hid hnb
          have HKK := Lib.hid hk
          have HCC := Lib.hid (And.intro hca hcb)
          clear c1 c2 c3 c4 g1 g2 hna hnb hk hlo hhi q1 q1n q2 q2n hca hcb hga hgb
          by_cases hlt : a2 < b2
          · have q5 : decide (a2 < b2) = true := decide_eq_true hlt
            rw [if_pos hlt] at HR
            go_wp2_with fail
            go_quiet (fail)
            have HO5 := fun nq => Lib.hid (HO3.out.below (drewN_below _ nq))
            have HB5 := fun nq => Lib.hid (HB3.out.trans ((drewN_below _ nq).mono HB3.out.size))
            clear y1 y2 y3 y4
            have hca := HCC.out.1
            have hcb := HCC.out.2
            by_cases hc1 : ca = 0
            · subst hc1
              have HT5 := Lib.hid (HTA.out.tailZ HNA.out)
              obtain rfl := HT5.out.2
              have HT5 := Lib.hid HT5.out.1
              clear HDA HDB hlt he
              go_wp2_with fail
              have hna := HNA.out
              have hnb := HNB.out
              go_roundw
              case rel => exact ⟨ta, (b1, b2) :: tb, acc, _, _, _, _, _, _, rfl, rfl, by omega, by simp only [List.length_cons]; omega, HT5.out, HTB.out, HR.out, by have hk := HKK.out; omega, (HO5 _).out, (HB5 _).out⟩
              case measure => simp only [slLenS]; omega
            · have HT5 := Lib.hid (HTA.out.tailS HNA.out)
              have z1 : (1 : Int) ≤ (na : Int) + 1 := by omega
              have z1n : 1 ≤ na + 1 := by omega
              have z3 : (na : Int) + 1 ≤ (ca : Int) + 1 := by omega
              clear HDA HDB hlt he
              go_wp2_with fail
              have hna := HNA.out
              have hnb := HNB.out
              go_roundw
              case rel => exact ⟨ta, (b1, b2) :: tb, acc, _, _, _, _, _, _, rfl, rfl, by omega, by simp only [List.length_cons]; omega, HT5.out, HTB.out, HR.out, by have hk := HKK.out; omega, (HO5 _).out, (HB5 _).out⟩
              case measure => simp only [slLenS]; omega
          · have q5 : decide (a2 < b2) = false := decide_eq_false hlt
            rw [if_neg hlt] at HR
            go_wp2_with fail
            go_quiet (fail)
            have HO5 := fun nq => Lib.hid (HO3.out.below (drewN_below _ nq))
            have HB5 := fun nq => Lib.hid (HB3.out.trans ((drewN_below _ nq).mono HB3.out.size))
            clear y1 y2 y3 y4
            have hca := HCC.out.1
            have hcb := HCC.out.2
            by_cases hc1 : cb = 0
            · subst hc1
              have HT5 := Lib.hid (HTB.out.tailZ HNB.out)
              obtain rfl := HT5.out.2
              have HT5 := Lib.hid HT5.out.1
              clear HDA HDB hlt he
              go_wp2_with fail
              have hna := HNA.out
              have hnb := HNB.out
              go_roundw
              case rel => exact ⟨(a1, a2) :: ta, tb, acc, _, _, _, _, _, _, rfl, rfl, by simp only [List.length_cons]; omega, by omega, HTA.out, HT5.out, HR.out, by have hk := HKK.out; omega, (HO5 _).out, (HB5 _).out⟩
              case measure => simp only [slLenS]; omega
            · have HT5 := Lib.hid (HTB.out.tailS HNB.out)
              have z1 : (1 : Int) ≤ (nb : Int) + 1 := by omega
              have z1n : 1 ≤ nb + 1 := by omega
              have z3 : (nb : Int) + 1 ≤ (cb : Int) + 1 := by omega
              clear HDA HDB hlt he
              go_wp2_with fail
              have hna := HNA.out
              have hnb := HNB.out
              go_roundw
              case rel => exact ⟨(a1, a2) :: ta, tb, acc, _, _, _, _, _, _, rfl, rfl, by simp only [List.length_cons]; omega, by omega, HTA.out, HT5.out, HR.out, by have hk := HKK.out; omega, (HO5 _).out, (HB5 _).out⟩
              case measure => simp only [slLenS]; omega
end Go.Proofs.YtjhecpkdpomkmaaGreat

namespace Go.Proofs.YtjhecpkdpomkmaaGreat
open Go.RowKit Go.Shelf
set_option linter.unusedVariables false
set_option linter.unusedSimpArgs false
set_option maxRecDepth 100000

theorem drop_get {l : List Rg} {i : Nat} (h : i < l.length) : l.drop i = l[i]! :: l.drop (i + 1) := by
  rw [List.drop_eq_getElem_cons h, getElem!_pos l i h]
def RelXS (w : World) (R s : List Rg) (lv fv iv : Value) (wr : World) : Prop :=
  ∃ (i : Nat) (acc : List Rg) (f : Int), i ≤ s.length ∧ acc.length ≤ i ∧ iv = .int .i64 (i : Nat) ∧ fv = .int .i64 f ∧ I64 f ∧ acc ++ oth f (s.drop i) = R ∧ OwnR w.heap.size wr lv acc ∧ Below w.heap.size w wr
theorem oth_end (f : Int) : oth f [] = [(f, 9223372036854775807)] := rfl
theorem oth_cons (f : Int) (r : Rg) (t : List Rg) : oth f (r :: t) = (if f < r.1 then [(f, r.1 - 1)] else []) ++ (if r.2 = 9223372036854775807 then [] else oth (r.2 + 1) t) := rfl
set_option maxHeartbeats 4000000 in
theorem others_ok (w : World) (v : Value) (s : List Rg) (hv : RSl w v s) (hn : s.length ≤ 1000000000) :
    Calls Tryz.prog 295 #[v] w fun e w' => ∃ v', e = .returned v' ∧ OwnR w.heap.size w' v' (oth (-9223372036854775808) s) ∧ Below w.heap.size w w' := by
  obtain ⟨i0, hi0, hz0, hz1, hz2⟩ := info_parts info_rg
  obtain ⟨R, hR⟩ : ∃ R, oth (-9223372036854775808) s = R := ⟨_, rfl⟩
  rw [hR]
  have H0 := Lib.hid (show RelXS w R s (.slice none 0 0) (.int .i64 (-9223372036854775808)) (.int .i64 0) w from ⟨0, [], _, Nat.zero_le _, Nat.le_refl _, rfl, rfl, by unfold I64; omega, hR, OwnR.nil _ _, Below.refl _ _⟩)
  have hbd := hv.bd
  have HBD := Lib.hid hbd
  have hcase : (s = [] ∧ ∃ a cap, v = .slice a 0 cap) ∨ (∃ g o cap n, v = .slice (some ⟨g, o, none⟩) n cap ∧ s.length = n ∧ 0 < n ∧ g < w.heap.size ∧ ∀ j, j < n → ∀ W, Below w.heap.size w W → W.cell? ⟨g, o + j * 2, none⟩ = some (.int .i64 s[j]!.1) ∧ W.cell? ⟨g, o + j * 2 + 1, none⟩ = some (.int .i64 s[j]!.2)) := by
    rcases Nat.eq_zero_or_pos s.length with h0 | h0
    · obtain rfl : s = [] := List.length_eq_zero_iff.1 h0
      obtain ⟨a, cap, e⟩ := hv.shape
      exact .inl ⟨rfl, a, cap, e⟩
    · obtain ⟨g, o, cap, e, hc, hg, hd⟩ := hv.at h0
      refine .inr ⟨g, o, cap, s.length, e, rfl, h0, hg, fun j hj W hW => ?_⟩
      rw [← (hd j hj).1, ← (hd j hj).2]
      exact ⟨World.cell?_of_block (w := w) (hW.block g hg), World.cell?_of_block (w := w) (hW.block g hg)⟩
  clear hv hR hbd
  rcases hcase with ⟨rfl, a, cap, rfl⟩ | ⟨g, o, cap, n, rfl, hsn, h0, hg, hd⟩
  · clear hn
    go_enter Tryz.func295, Tryz.ntmps295
    go_wp2_with fail
    go_loopw [3, 4, 9] (fun lv fv iv wr => RelXS w R [] lv fv iv wr) (fun _ _ _ _ => 0)
    case atStart => exact H0.out
    case round =>
      obtain ⟨i, acc, f, hi, hal, rfl, rfl, hf, hR, hown, hbel⟩ := hrel
      obtain rfl : i = 0 := by simpa using hi
      obtain rfl : acc = [] := List.length_eq_zero_iff.1 (by omega)
      have HO := Lib.hid hown
      have HB := Lib.hid hbel
      have HR := Lib.hid hR
      have hbw := hbel.size
      clear hown hbel hR H0 hi hal
      go_wp2_with (at_builtin; refine wpList_append_own _ rfl (.tmp 33) (.tmp 36) 42 rfl w.heap.size 66 i0 rgZero 2 16 Tryz.underlying42 hi0 hz0 hz1 hz2 rfl (by decide) _ ([] : List Rg).length (rcells []) rfl (World.ownsRow.alloc HO.out _) ⟨wr.heap.size, 0, none⟩ 1 1 [.int .i64 f, .int .i64 9223372036854775807] rfl rfl (new_rg _ _ _) (one_rg _ _) (by unfold maxLen; simp) (by simp) (by simp; omega) ?_; intro v' w4 hown4 hgr4 _; have HO4 := Lib.hid (own_snoc hown4); have HB4 := Lib.hid (own_grown HB.out HO.out (Nat.le_refl _) HB.out.size _ hgr4); clear hown4 hgr4)
      go_ret
      rw [← HR.out]
      exact ⟨_, rfl, HO4.out, HB4.out⟩
  · have HD := Lib.hid hd
    have HSN := Lib.hid hsn
    rw [hsn] at hn
    have HG := Lib.hid hg
    clear hd hsn hg
    go_enter Tryz.func295, Tryz.ntmps295
    go_wp2_with fail
    go_loopw [3, 4, 9] (fun lv fv iv wr => RelXS w R s lv fv iv wr) (fun _ _ iv _ => n - (Lib.intOf iv).toNat)
    case atStart => exact H0.out
    case round =>
      clear H0
      obtain ⟨i, acc, f, hi, hal, rfl, rfl, hf, hR, hown, hbel⟩ := hrel
      have HO := Lib.hid hown
      have HOLD := Lib.hid hown
      have HB := Lib.hid hbel
      have hbw := hbel.size
      have HF := Lib.hid hf
      clear hown hbel hf
      have hin : i ≤ n := by have := HSN.out; omega
      by_cases hlt : i < n
      · have q1 : decide ((i : Int) < (n : Int)) = true := decide_eq_true (by omega)
        have q1n : decide (i < n) = true := decide_eq_true hlt
        have q3 : IntKind.i64.wrap ((i : Int) + 1) = ((i + 1 : Nat) : Int) := wrap_succ hlt (by omega)
        have hil : i < s.length := by have := HSN.out; omega
        have hgw : g < wr.heap.size := Nat.lt_of_lt_of_le HG.out hbw
        obtain ⟨c1, c2⟩ := HD.out i hlt wr HB.out
        have hb := HBD.out.get hil
        rw [drop_get hil, oth_cons] at hR
        obtain ⟨x, hx⟩ : ∃ x, s[i]!.1 = x := ⟨_, rfl⟩
        obtain ⟨y, hy⟩ : ∃ y, s[i]!.2 = y := ⟨_, rfl⟩
        rw [hx] at c1 hb hR
        rw [hy] at c2 hb hR
        have HBI := Lib.hid hb
        have HR := Lib.hid hR
        have HX3 := Lib.hid (show ∀ W, Below (wr.alloc (.cells #[.int .i64 x, .int .i64 y] 66)).heap.size (wr.alloc (.cells #[.int .i64 x, .int .i64 y] 66)) W → W.cell? ⟨wr.heap.size, 0, none⟩ = some (.int .i64 x) ∧ W.cell? ⟨wr.heap.size, 1, none⟩ = some (.int .i64 y) from fun W hW => ⟨(hW.cell (p := ⟨wr.heap.size, 0, none⟩) (by simp)).trans (by simp), (hW.cell (p := ⟨wr.heap.size, 1, none⟩) (by simp)).trans (by simp)⟩)
        have HO3 := Lib.hid (HO.out.below ((Below.refl wr.heap.size wr).alloc (Nat.le_refl _) (.cells #[.int .i64 x, .int .i64 y] 66)))
        have HB3 := Lib.hid (HB.out.alloc HB.out.size (.cells #[.int .i64 x, .int .i64 y] 66))
        clear hx hy hb hR HO HB
        by_cases hfx : f < x
        · have q5 : decide (f < x) = true := decide_eq_true hfx
          obtain ⟨x1, hx1⟩ : ∃ x1, x - 1 = x1 := ⟨_, rfl⟩
          have q6 : IntKind.i64.wrap (x - 1) = x1 := by rw [hx1]; exact wrap_ok (by have h1 := HBI.out.1; have h2 := HF.out; unfold I64 at *; omega)
          have HR2 := Lib.hid (show acc ++ [(f, x1)] ++ (if y = 9223372036854775807 then [] else oth (y + 1) (s.drop (i + 1))) = R by
            have h := HR.out
            rw [if_pos hfx, ← List.append_assoc, hx1] at h
            exact h)
          have hsize : (wr.alloc (.cells #[.int .i64 x, .int .i64 y] 66)).heap.size = wr.heap.size + 1 := by simp
          have HSZ := Lib.hid hsize
          have HX5 := Lib.hid (show ∀ lv0, OwnR w.heap.size wr lv0 acc → ∀ w4, ((wr.alloc (.cells #[.int .i64 x, .int .i64 y] 66)).alloc (.cells #[.int .i64 f, .int .i64 x1] 66)).grownBy w4 (Value.ownBlock lv0) → w4.cell? ⟨wr.heap.size, 0, none⟩ = some (.int .i64 x) ∧ w4.cell? ⟨wr.heap.size, 1, none⟩ = some (.int .i64 y) from fun lv0 hold w4 hg => by
            have e1 : some wr.heap.size ≠ Value.ownBlock lv0 := fun e => by have := (hold.lt _ e.symm).2; omega
            obtain ⟨a1, a2⟩ := HX3.out _ ((Below.refl _ (wr.alloc (.cells #[.int .i64 x, .int .i64 y] 66))).alloc (Nat.le_refl _) (.cells #[.int .i64 f, .int .i64 x1] 66))
            exact ⟨hg.cell a1 e1, hg.cell a2 e1⟩)
          clear hx1 HR hsize
          by_cases hy : y = 9223372036854775807
          · have q7 : (y == 9223372036854775807) = true := by rw [hy]; rfl
            have HR3 := Lib.hid (show acc ++ [(f, x1)] = R by have h := HR2.out; rw [if_pos hy, List.append_nil] at h; exact h)
            clear HR2 hy
            go_wp2_with (at_builtin; refine wpList_append_own _ rfl (.tmp 17) (.tmp 23) 42 rfl w.heap.size 66 i0 rgZero 2 16 Tryz.underlying42 hi0 hz0 hz1 hz2 rfl (by decide) _ acc.length (rcells acc) rfl (World.ownsRow.alloc HO3.out _) ⟨wr.heap.size + 1, 0, none⟩ 1 1 [.int .i64 f, .int .i64 x1] rfl rfl (by have := new_rg (wr.alloc (.cells #[.int .i64 x, .int .i64 y] 66)) f x1; rw [HSZ.out] at this; exact this) (one_rg _ _) (by unfold maxLen; omega) (by omega) (by simp; omega) ?_; intro v' w4 hown4 hgr4 _; have HO4 := Lib.hid (own_snoc hown4); have HB4 := Lib.hid (own_grown HB3.out HO3.out (Nat.le_refl _) HB3.out.size _ hgr4); have k5 := HX5.out _ HOLD.out w4 hgr4; have k1 := k5.1; have k2 := k5.2; clear hown4 hgr4 k5)
            go_ret
            rw [← HR3.out]
            exact ⟨_, rfl, HO4.out, HB4.out⟩
          · have q7 : (y == 9223372036854775807) = false := beq_false_of_ne hy
            obtain ⟨y1, hy1⟩ : ∃ y1, y + 1 = y1 := ⟨_, rfl⟩
            have hyi : I64 y1 := by have h1 := HBI.out.2; unfold I64 at *; omega
            have q8 : IntKind.i64.wrap (y + 1) = y1 := by rw [hy1]; exact wrap_ok hyi
            have HR3 := Lib.hid (show acc ++ [(f, x1)] ++ oth y1 (s.drop (i + 1)) = R by have h := HR2.out; rw [if_neg hy, hy1] at h; exact h)
            have HYI := Lib.hid hyi
            clear HR2 hy1 hyi hy
            go_wp2_with (at_builtin; refine wpList_append_own _ rfl (.tmp 17) (.tmp 23) 42 rfl w.heap.size 66 i0 rgZero 2 16 Tryz.underlying42 hi0 hz0 hz1 hz2 rfl (by decide) _ acc.length (rcells acc) rfl (World.ownsRow.alloc HO3.out _) ⟨wr.heap.size + 1, 0, none⟩ 1 1 [.int .i64 f, .int .i64 x1] rfl rfl (by have := new_rg (wr.alloc (.cells #[.int .i64 x, .int .i64 y] 66)) f x1; rw [HSZ.out] at this; exact this) (one_rg _ _) (by unfold maxLen; omega) (by omega) (by simp; omega) ?_; intro v' w4 hown4 hgr4 _; have HO4 := Lib.hid (own_snoc hown4); have HB4 := Lib.hid (own_grown HB3.out HO3.out (Nat.le_refl _) HB3.out.size _ hgr4); have k5 := HX5.out _ HOLD.out w4 hgr4; have k1 := k5.1; have k2 := k5.2; clear hown4 hgr4 k5)
            go_roundw
            case rel => exact ⟨i + 1, acc ++ [(f, x1)], y1, hil, by rw [List.length_append, List.length_singleton]; omega, rfl, rfl, HYI.out, HR3.out, HO4.out, HB4.out⟩
            case measure => simp only [Lib.intOf]; omega
        · have q5 : decide (f < x) = false := decide_eq_false hfx
          have HR2 := Lib.hid (show acc ++ (if y = 9223372036854775807 then [] else oth (y + 1) (s.drop (i + 1))) = R by
            have h := HR.out
            rw [if_neg hfx, List.nil_append] at h
            exact h)
          clear HR
          by_cases hy : y = 9223372036854775807
          · have q7 : (y == 9223372036854775807) = true := by rw [hy]; rfl
            have HR3 := Lib.hid (show acc = R by have h := HR2.out; rw [if_pos hy, List.append_nil] at h; exact h)
            clear HR2 hy
            go_wp2_with fail
            go_ret
            rw [← HR3.out]
            exact ⟨_, rfl, HO3.out, HB3.out⟩
          · have q7 : (y == 9223372036854775807) = false := beq_false_of_ne hy
            obtain ⟨y1, hy1⟩ : ∃ y1, y + 1 = y1 := ⟨_, rfl⟩
            have hyi : I64 y1 := by have h1 := HBI.out.2; unfold I64 at *; omega
            have q8 : IntKind.i64.wrap (y + 1) = y1 := by rw [hy1]; exact wrap_ok hyi
            have HR3 := Lib.hid (show acc ++ oth y1 (s.drop (i + 1)) = R by have h := HR2.out; rw [if_neg hy, hy1] at h; exact h)
            have HYI := Lib.hid hyi
            clear HR2 hy1 hyi hy
            go_wp2_with fail
            go_roundw
            case rel => exact ⟨i + 1, acc, y1, hil, by omega, rfl, rfl, HYI.out, HR3.out, HO3.out, HB3.out⟩
            case measure => simp only [Lib.intOf]; omega
      · have q1 : decide ((i : Int) < (n : Int)) = false := decide_eq_false (by omega)
        have q1n : decide (i < n) = false := decide_eq_false hlt
        have HR := Lib.hid (show acc ++ [(f, 9223372036854775807)] = R by
          rw [List.drop_of_length_le (by have := HSN.out; omega), oth_end] at hR
          exact hR)
        clear hR
        go_wp2_with (at_builtin; refine wpList_append_own _ rfl (.tmp 33) (.tmp 36) 42 rfl w.heap.size 66 i0 rgZero 2 16 Tryz.underlying42 hi0 hz0 hz1 hz2 rfl (by decide) _ acc.length (rcells acc) rfl (World.ownsRow.alloc HO.out _) ⟨wr.heap.size, 0, none⟩ 1 1 [.int .i64 f, .int .i64 9223372036854775807] rfl rfl (new_rg _ _ _) (one_rg _ _) (by unfold maxLen; omega) (by omega) (by simp; omega) ?_; intro v' w4 hown4 hgr4 _; have HO4 := Lib.hid (own_snoc hown4); have HB4 := Lib.hid (own_grown HB.out HO.out (Nat.le_refl _) HB.out.size _ hgr4); clear hown4 hgr4)
        go_ret
        rw [← HR.out]
        exact ⟨_, rfl, HO4.out, HB4.out⟩
end Go.Proofs.YtjhecpkdpomkmaaGreat

namespace Go.Proofs.YtjhecpkdpomkmaaGreat
open Go.RowKit Go.Shelf
set_option linter.unusedVariables false
set_option linter.unusedSimpArgs false
set_option maxRecDepth 100000

/-- the slice v holds the right set of the numbers for which p holds, of at most K ranges -/
def Ans (w : World) (v : Value) (p : Int → Prop) (K : Nat) (r : List Rg) : Prop := RSl w v r ∧ Says r p ∧ r.length ≤ K
theorem vat_one (w : World) (v : Value) (l : List Rg) (h : RSl w v l) (t : TypeId) : VAt (w.alloc (.cells #[v] t)) w.heap.size [l] := by
  intro i hi
  obtain rfl : i = 0 := by simpa using hi
  exact ⟨v, by simp, h.below ((Below.refl _ _).alloc (Nat.le_refl _) _)⟩
theorem NormOf.says {ls : List (List Rg)} {r : List Rg} (h : NormOf ls r) (hb : Bd r) (p : Int → Prop) (hp : ∀ n, (∃ s ∈ ls, mem s n) ↔ p n) : Says r p :=
  ⟨h.rgt, hb, fun n _ => (h.tells n).trans (hp n)⟩
theorem one_list (l : List Rg) (n : Int) : (∃ s ∈ [l], mem s n) ↔ mem l n := by simp
/-- 'normalized' of one list -/
theorem norm_one (w : World) (v : Value) (l : List Rg) (h : RSl w v l) (hl : l.length ≤ 100000) :
    Calls Tryz.prog 255 #[.slice (some ⟨w.heap.size, 0, none⟩) 1 1] (w.alloc (.cells #[v] 42)) fun e w' => ∃ v' r, e = .returned v' ∧ Ans w' v' (mem l) l.length r ∧ Below w.heap.size w w' := by
  have hb := (Below.refl w.heap.size w).alloc (Nat.le_refl _) (.cells #[v] 42)
  refine (normalized_ok (w.alloc (.cells #[v] 42)) w.heap.size 1 [l] (vat_one w v l h _) rfl (by simp; omega) (by omega)).mono ?_
  rintro e w' ⟨v', r, rfl, h1, h2, h3⟩
  exact ⟨v', r, rfl, ⟨h1, h2.says h1.bd _ (one_list l), by have := h2.len; simpa using this⟩, hb.trans (h3.mono (by simp))⟩
set_option maxHeartbeats 1000000 in
theorem Norm_ok (w : World) (v : Value) (l : List Rg) (h : RSl w v l) (hl : l.length ≤ 100000) :
    Calls Tryz.prog 235 #[v] w fun e w' => ∃ v' r, e = .returned v' ∧ Ans w' v' (mem l) l.length r ∧ Below w.heap.size w w' := by
  obtain ⟨sa, ca, rfl⟩ := h.shape
  have HC := Lib.hid (norm_one w _ l h hl)
  clear h hl
  go_enter Tryz.func235, Tryz.ntmps235
  go_wp2_with fail
  refine HC.out.mono ?_
  rintro e w' ⟨v', r, rfl, h1, h2⟩
  have HA := Lib.hid h1
  have HB := Lib.hid h2
  clear h1 h2
  go_wp2_with fail
  go_ret
  exact ⟨_, r, rfl, HA.out, HB.out⟩
theorem common_says {a b : List Rg} {p q : Int → Prop} (ha : Says a p) (hb : Says b q) : Says (cmn a b) (fun n => p n ∧ q n) ∧ (cmn a b).length ≤ a.length + b.length := by
  obtain ⟨h1, h2, h3, h4⟩ := cmn_ok (a.length + b.length) a b (Nat.le_refl _) ha.1 hb.1 ha.2.1 hb.2.1
  exact ⟨⟨h1, h2, fun n hn => by rw [h3 n, ha.2.2 n hn, hb.2.2 n hn]⟩, h4⟩
theorem others_says {a : List Rg} {p : Int → Prop} (ha : Says a p) : Says (oth (-9223372036854775808) a) (fun n => ¬ p n) ∧ (oth (-9223372036854775808) a).length ≤ a.length + 1 := by
  have hi : I64 (-9223372036854775808) := by unfold I64; omega
  obtain ⟨h1, h2, _, h4, h5⟩ := oth_ok a (-9223372036854775808) ha.1 ha.2.1 hi (fun _ _ => .inl rfl)
  refine ⟨⟨h1, h2, fun n hn => ?_⟩, h5⟩
  rw [h4 n hn, ha.2.2 n hn]
  unfold I64 at hn
  exact ⟨fun h => h.2, fun h => ⟨hn.1, h⟩⟩
theorem others_ans (w : World) (va : Value) (a : List Rg) (p : Int → Prop) (K : Nat) (ha : Ans w va p K a) (hK : K ≤ 1000000) :
    Calls Tryz.prog 295 #[va] w fun e w' => ∃ v' r, e = .returned v' ∧ Ans w' v' (fun n => ¬ p n) (K + 1) r ∧ Below w.heap.size w w' := by
  obtain ⟨ha1, ha2, ha3⟩ := ha
  obtain ⟨h1, h2⟩ := others_says ha2
  refine (others_ok w va a ha1 (by omega)).mono ?_
  rintro e w' ⟨v, rfl, h3, h4⟩
  exact ⟨v, _, rfl, ⟨h3.rsl h1.2.1, h1, by omega⟩, h4⟩
theorem Ans.below {w w' : World} {v : Value} {p : Int → Prop} {K : Nat} {r : List Rg} (h : Ans w v p K r) (hb : Below w.heap.size w w') : Ans w' v p K r := ⟨h.1.below hb, h.2⟩
/-- a literal of ranges -/
theorem rsl_lit (w : World) (l : List Rg) (hb : Bd l) (cs : Array Value) (hc : (rcells l).toArray = cs) (n : Nat) (hn : n = l.length) : RSl (w.alloc (.cells cs 66)) (.slice (some ⟨w.heap.size, 0, none⟩) n n) l := by
  subst hc
  subst hn
  have hrow : Row (w.alloc (.cells (rcells l).toArray 66)) w.heap.size l.length l := ⟨[], by rw [List.append_nil]; exact heap_alloc_new w _, by rw [List.append_nil, rcells_length]⟩
  refine ⟨hb, .inl ⟨w.heap.size, 0, l.length, rfl, Nat.le_refl _, fun i hi => ?_⟩⟩
  have := hrow.cell i hi
  rw [Nat.zero_add]
  exact this
def wholeL : List Rg := [(-9223372036854775808, 9223372036854775807)]
theorem wholeL_bd : Bd wholeL := by simp [wholeL, Bd, I64]
theorem wholeL_says : Says wholeL (fun _ => True) := ⟨rgt_one.2 (by simp), wholeL_bd, fun n hn => by unfold I64 at hn; unfold wholeL; rw [mem_one]; simp only; exact ⟨fun _ => trivial, fun _ => hn⟩⟩
set_option maxHeartbeats 1000000 in
theorem Whole_ok (w : World) : Calls Tryz.prog 233 #[] w fun e w' => ∃ v', e = .returned v' ∧ RSl w' v' wholeL ∧ Below w.heap.size w w' := by
  have HR := Lib.hid (rsl_lit w wholeL wholeL_bd #[.int .i64 (-9223372036854775808), .int .i64 9223372036854775807] rfl 1 rfl)
  have HB := Lib.hid ((Below.refl w.heap.size w).alloc (Nat.le_refl _) (.cells #[.int .i64 (-9223372036854775808), .int .i64 9223372036854775807] 66))
  go_enter Tryz.func233, Tryz.ntmps233
  go_wp2_with fail
  go_ret
  exact ⟨_, rfl, HR.out, HB.out⟩
end Go.Proofs.YtjhecpkdpomkmaaGreat
