/-
  Package spans: what two normalized sets have in common.
-/
import Derived.Test.YtfnpjdglfaaegaaSpZ
import Derived.BigRegion
import Derived.Deep.CutRange
namespace Go.Proofs.Ytfnpjdglfaaegaa
open Go.RowKit Go.Shelf
set_option linter.unusedVariables false
set_option linter.unusedSimpArgs false
set_option maxRecDepth 100000

def slLen : Value → Nat
  | .slice _ n _ => n
  | _ => 0
theorem RSl.tail {w : World} {g o cap n : Nat} {r : Rg} {t : List Rg} (h : RSl w (.slice (some ⟨g, o, none⟩) n cap) (r :: t)) (hn : n = t.length + 1) : RSl w (.slice (some ⟨g, o + 2, none⟩) (n - 1) (cap - 1)) t := by
  refine ⟨(Bd.cons.1 h.1).2, ?_⟩
  obtain ⟨g', o', cap', e, hc, _, hd⟩ := h.at (by simp)
  simp only [Value.slice.injEq, Option.some.injEq, Addr.mk.injEq, List.length_cons] at e
  obtain ⟨⟨rfl, rfl, _⟩, e1, rfl⟩ := e
  refine .inl ⟨g, o + 2, cap - 1, by rw [hn]; rfl, by simp at hc; omega, fun i hi => ?_⟩
  have := hd (i + 1) (by simp; omega)
  rw [show (r :: t)[i + 1]! = t[i]! by simp] at this
  rw [show o + 2 + i * 2 = o + (i + 1) * 2 by omega]
  exact this
theorem RSl.tailS {w : World} {g o cap n : Nat} {r : Rg} {t : List Rg} (h : RSl w (.slice (some ⟨g, o, none⟩) (n + 1) (cap + 1)) (r :: t)) (hn : t.length + 1 = n + 1) : RSl w (.slice (some ⟨g, o + 2, none⟩) n cap) t := by
  have := h.tail hn.symm
  simpa using this
theorem RSl.tailZ {w : World} {g o n : Nat} {r : Rg} {t : List Rg} (h : RSl w (.slice (some ⟨g, o, none⟩) (n + 1) (0 + 1)) (r :: t)) (hn : t.length + 1 = n + 1) : RSl w (.slice (some ⟨g, o, none⟩) n 0) t ∧ n = 0 := by
  obtain ⟨g', o', cap', e, hc, _, hd⟩ := h.at (by simp)
  simp only [Value.slice.injEq, List.length_cons] at e hc
  have hn0 : n = 0 := by omega
  subst hn0
  obtain rfl : t = [] := List.length_eq_zero_iff.1 (by omega)
  exact ⟨⟨Bd.nil, .inr ⟨rfl, _, _, rfl⟩⟩, rfl⟩
theorem RSl.tail1 {w : World} {g o : Nat} {r : Rg} {t : List Rg} (h : RSl w (.slice (some ⟨g, o, none⟩) 1 1) (r :: t)) : RSl w (.slice (some ⟨g, o, none⟩) 0 0) t ∧ t = [] := by
  obtain ⟨g', o', cap', e, hc, _, hd⟩ := h.at (by simp)
  simp only [Value.slice.injEq, List.length_cons] at e
  obtain rfl : t = [] := List.length_eq_zero_iff.1 (by omega)
  exact ⟨⟨Bd.nil, .inr ⟨rfl, _, _, rfl⟩⟩, rfl⟩
/-- the first element, in every later world -/
theorem RSl.hd {w : World} {v : Value} {r : Rg} {t : List Rg} (h : RSl w v (r :: t)) : ∃ g o cap, v = .slice (some ⟨g, o, none⟩) (t.length + 1) cap ∧ t.length + 1 ≤ cap ∧ g < w.heap.size ∧ ∀ W, Below w.heap.size w W → W.cell? ⟨g, o, none⟩ = some (.int .i64 r.1) ∧ W.cell? ⟨g, o + 1, none⟩ = some (.int .i64 r.2) := by
  obtain ⟨g, o, cap, e, hc, hg, hd⟩ := h.at (by simp)
  refine ⟨g, o, cap, e, hc, hg, fun W hW => ?_⟩
  have := hd 0 (by simp)
  rw [Nat.zero_mul, Nat.add_zero] at this
  rw [← show W.cell? ⟨g, o, none⟩ = w.cell? ⟨g, o, none⟩ from World.cell?_of_block (w := w) (hW.block g hg), ← show W.cell? ⟨g, o + 1, none⟩ = w.cell? ⟨g, o + 1, none⟩ from World.cell?_of_block (w := w) (hW.block g hg)] at this
  exact this
def RelC (w : World) (R : List Rg) (K : Nat) (av bv lv : Value) (wr : World) : Prop :=
  ∃ (A B acc : List Rg) (sa sb : Option Addr) (ca cb na nb : Nat), av = .slice sa na ca ∧ bv = .slice sb nb cb ∧ A.length = na ∧ B.length = nb ∧ RSl w av A ∧ RSl w bv B ∧ acc ++ cmn A B = R ∧ acc.length + na + nb ≤ K ∧ OwnR w.heap.size wr lv acc ∧ Below w.heap.size w wr
theorem drewN_below (w : World) (n : Nat) : Below w.heap.size w (w.drewN n) := ⟨rfl, rfl, rfl, Nat.le_refl _, fun _ _ => rfl⟩
set_option maxHeartbeats 4000000 in
theorem common_ok (w : World) (sa sb : Option Addr) (na nb ca cb : Nat) (A B : List Rg) (ha : RSl w (.slice sa na ca) A) (hb : RSl w (.slice sb nb cb) B) (hna : A.length = na) (hnb : B.length = nb) (hn : na + nb ≤ 1000000000) :
    Calls Try.prog 45 #[.slice sa na ca, .slice sb nb cb] w fun e w' => ∃ v, e = .returned v ∧ OwnR w.heap.size w' v (cmn A B) ∧ Below w.heap.size w w' := by
  obtain ⟨i0, hi0, hz0, hz1, hz2⟩ := info_parts info_rg
  obtain ⟨R, hR⟩ : ∃ R, cmn A B = R := ⟨_, rfl⟩
  rw [hR]
  have H0 := Lib.hid (show RelC w R (na + nb) (.slice sa na ca) (.slice sb nb cb) (.slice none 0 0) w from ⟨A, B, [], sa, sb, ca, cb, na, nb, rfl, rfl, hna, hnb, ha, hb, hR, by simp, OwnR.nil _ _, Below.refl _ _⟩)
  obtain ⟨K, hK⟩ : ∃ K, na + nb = K := ⟨_, rfl⟩
  rw [hK] at H0 hn
  clear ha hb hR hna hnb hK
  go_enter Try.func45, Try.ntmps45
  go_wp2_with fail
  go_loopw [0, 1, 5] (fun av bv lv wr => RelC w R K av bv lv wr) (fun av bv _ _ => slLen av + slLen bv)
  case atStart => exact H0.out
  case round =>
    clear H0
    obtain ⟨A, B, acc, sa, sb, ca, cb, na, nb, rfl, rfl, hna, hnb, ha, hb, hR, hk, hown, hbel⟩ := hrel
    have HO := Lib.hid hown
    have HB := Lib.hid hbel
    have HR := Lib.hid hR
    clear hown hbel hR
    cases A with
    | nil =>
      obtain rfl : na = 0 := hna.symm
      rw [cmn_nil, List.append_nil] at HR
      clear ha hb hnb
      go_wp2_with fail
      go_ret
      rw [← HR.out]
      exact ⟨_, rfl, HO.out, HB.out⟩
    | cons a ta =>
      cases B with
      | nil =>
        obtain rfl : nb = 0 := hnb.symm
        rw [cmn_nil2, List.append_nil] at HR
        have q1 : decide (0 < (na : Int)) = true := decide_eq_true (by have := hna; simp at this; omega)
        have q1n : decide (0 < na) = true := decide_eq_true (by have := hna; simp at this; omega)
        clear ha hb hna hk
        go_wp2_with fail
        go_ret
        rw [← HR.out]
        exact ⟨_, rfl, HO.out, HB.out⟩
      | cons b tb =>
        obtain ⟨a1, a2⟩ := a
        obtain ⟨b1, b2⟩ := b
        have HTA := Lib.hid ha
        have HTB := Lib.hid hb
        obtain ⟨ga, oa, ca', ea, hca, hga, hda⟩ := ha.hd
        obtain ⟨gb, ob, cb', eb, hcb, hgb, hdb⟩ := hb.hd
        simp only [List.length_cons] at hna hnb
        rw [hna] at ea hca
        rw [hnb] at eb hcb
        obtain ⟨rfl, -, rfl⟩ : sa = some ⟨ga, oa, none⟩ ∧ na = na ∧ ca = ca' := by simpa using ea
        obtain ⟨rfl, -, rfl⟩ : sb = some ⟨gb, ob, none⟩ ∧ nb = nb ∧ cb = cb' := by simpa using eb
        obtain ⟨na, rfl⟩ : ∃ n1, na = n1 + 1 := ⟨na - 1, by omega⟩
        obtain ⟨nb, rfl⟩ : ∃ n1, nb = n1 + 1 := ⟨nb - 1, by omega⟩
        obtain ⟨ca, rfl⟩ : ∃ n1, ca = n1 + 1 := ⟨ca - 1, by omega⟩
        obtain ⟨cb, rfl⟩ : ∃ n1, cb = n1 + 1 := ⟨cb - 1, by omega⟩
        have q1 : decide (0 < (na : Int) + 1) = true := decide_eq_true (by omega)
        have q1n : decide (0 < na + 1) = true := decide_eq_true (by omega)
        have q2 : decide (0 < (nb : Int) + 1) = true := decide_eq_true (by omega)
        have q2n : decide (0 < nb + 1) = true := decide_eq_true (by omega)
        have x1 : (0 : Int) < (na : Int) + 1 := by omega
        have x1n : 0 < na + 1 := by omega
        have x2 : (0 : Int) < (nb : Int) + 1 := by omega
        have x2n : 0 < nb + 1 := by omega
        have HDA := Lib.hid hda
        have HDB := Lib.hid hdb
        obtain ⟨c1, c2⟩ := hda wr HB.out
        obtain ⟨c3, c4⟩ := hdb wr HB.out
        simp only at c1 c2 c3 c4
        have hg1 : ga < wr.heap.size := Nat.lt_of_lt_of_le hga HB.out.size
        have hg2 : gb < wr.heap.size := Nat.lt_of_lt_of_le hgb HB.out.size
        rw [cmn_cons] at HR
        simp only at HR
        obtain ⟨lo, hlo⟩ : ∃ lo, max a1 b1 = lo := ⟨_, rfl⟩
        obtain ⟨hi, hhi⟩ : ∃ hi, min a2 b2 = hi := ⟨_, rfl⟩
        rw [hlo, hhi] at HR
        clear hda hdb ea eb ha hb
        go_wp2_with fail
        go_cut [6] from 7 to 53 (fun p wx => p = .pointer (some ⟨wr.heap.size, 0, none⟩) ∧ wx = (wr.alloc (.cells #[.int .i64 lo, .int .i64 hi] 51)).drew)
        case first =>
          go_region
          go_wp2_with fail
          go_meet
          exact ⟨rfl, rfl⟩
        obtain ⟨rfl, rfl⟩ := hcut
        have hb1 := ((Below.refl wr.heap.size wr).alloc (Nat.le_refl _) (.cells #[.int .i64 lo, .int .i64 hi] 51)).drew
        have f1 : ((wr.alloc (.cells #[.int .i64 lo, .int .i64 hi] 51)).drew).cell? ⟨wr.heap.size, 0, none⟩ = some (.int .i64 lo) := by show (wr.alloc _).cell? _ = _; simp
        have f2 : ((wr.alloc (.cells #[.int .i64 lo, .int .i64 hi] 51)).drew).cell? ⟨wr.heap.size, 1, none⟩ = some (.int .i64 hi) := by show (wr.alloc _).cell? _ = _; simp
        have f3 : wr.heap.size < ((wr.alloc (.cells #[.int .i64 lo, .int .i64 hi] 51)).drew).heap.size := by show _ < (wr.alloc _).heap.size; simp
        have HO1 := Lib.hid (HO.out.below hb1)
        have HB1 := Lib.hid (HB.out.trans (hb1.mono HB.out.size))
        clear hb1 c1 c2 c3 c4 HO HB
        generalize (wr.alloc (.cells #[.int .i64 lo, .int .i64 hi] 51)).drew = W1 at *
        generalize wr.heap.size = bb at *
        go_wp2_with fail
        refine (isEmpty_ok lo hi W1).mono ?_
        rintro e w3 ⟨rfl, hb⟩
        have HO3 := Lib.hid (HO1.out.below hb)
        have HB3 := Lib.hid (HB1.out.trans (hb.mono HB1.out.size))
        have g1 := (hb.cell (p := ⟨bb, 0, none⟩) f3).trans f1
        have g2 := (hb.cell (p := ⟨bb, 1, none⟩) f3).trans f2
        obtain ⟨c1, c2⟩ := HDA.out w3 HB3.out
        obtain ⟨c3, c4⟩ := HDB.out w3 HB3.out
        clear hb f1 f2 f3 HO1 HB1
        by_cases he : lo ≤ hi
        · have e1 : decide (hi < lo) = false := decide_eq_false (by omega)
          rw [e1]
          rw [if_pos he, ← List.append_assoc] at HR
          have hbw := HB3.out.size
          have hal : acc.length ≤ 1000000000 := by omega
          have HNA := Lib.hid hna
          have HNB := Lib.hid hnb
          have HKK := Lib.hid hk
          have HCC := Lib.hid (And.intro hca hcb)
          have HX1 := Lib.hid (And.intro x1 x1n)
          have HX2 := Lib.hid (And.intro x2 x2n)
          clear c1 c2 c3 c4 hna hnb hk hlo hhi q1 q1n q2 q2n x1 x1n x2 x2n hca hcb hga hgb
          go_wp2_with (at_builtin; refine wpList_append_own _ rfl (.tmp 37) (.tmp 39) 25 rfl w.heap.size 51 i0 rgZero 2 16 Try.underlying25 hi0 hz0 hz1 hz2 rfl (by decide) _ acc.length (rcells acc) rfl (World.ownsRow.alloc HO3.out _) ⟨w3.heap.size, 0, none⟩ 1 1 [.int .i64 lo, .int .i64 hi] rfl rfl (new_rg _ _ _) (one_rg lo hi) (by unfold maxLen; omega) (by omega) (by simp; omega) ?_; intro v' w4 hown4 hgr4 _; have HO4 := Lib.hid (own_snoc hown4); have HB4 := Lib.hid (own_grown HB3.out HO3.out (Nat.le_refl _) HB3.out.size _ hgr4); clear hown4 hgr4)
          obtain ⟨y1, y2⟩ := HDA.out w4 HB4.out
          obtain ⟨y3, y4⟩ := HDB.out w4 HB4.out
          obtain ⟨x1, x1n⟩ := HX1.out
          obtain ⟨x2, x2n⟩ := HX2.out
          clear HO3 HB3 g1 g2 hbw
          by_cases hlt : a2 < b2
          · have q5 : decide (a2 < b2) = true := decide_eq_true hlt
            rw [if_pos hlt] at HR
            go_wp2_with fail
            go_quiet (fail)
            have HO5 := fun nq => Lib.hid (HO4.out.below (drewN_below _ nq))
            have HB5 := fun nq => Lib.hid (HB4.out.trans ((drewN_below _ nq).mono HB4.out.size))
            clear y1 y2 y3 y4
            have hca := HCC.out.1
            have hcb := HCC.out.2
            by_cases hc1 : ca = 0
            · subst hc1
              have HT5 := Lib.hid (HTA.out.tailZ HNA.out)
              obtain rfl := HT5.out.2
              have HT5 := Lib.hid HT5.out.1
              clear HDA HDB hlt he
              go_wp2_with fail
              have hna := HNA.out
              have hnb := HNB.out
              go_roundw
              case rel => exact ⟨ta, (b1, b2) :: tb, acc ++ [(lo, hi)], _, _, _, _, _, _, rfl, rfl, by omega, by simp only [List.length_cons]; omega, HT5.out, HTB.out, HR.out, by have hk := HKK.out; simp only [List.length_append, List.length_singleton]; omega, (HO5 _).out, (HB5 _).out⟩
              case measure => simp only [slLen]; omega
            · have HT5 := Lib.hid (HTA.out.tailS HNA.out)
              have z1 : (1 : Int) ≤ (na : Int) + 1 := by omega
              have z1n : 1 ≤ na + 1 := by omega
              have z3 : (na : Int) + 1 ≤ (ca : Int) + 1 := by omega
              clear HDA HDB hlt he
              go_wp2_with fail
              have hna := HNA.out
              have hnb := HNB.out
              go_roundw
              case rel => exact ⟨ta, (b1, b2) :: tb, acc ++ [(lo, hi)], _, _, _, _, _, _, rfl, rfl, by omega, by simp only [List.length_cons]; omega, HT5.out, HTB.out, HR.out, by have hk := HKK.out; simp only [List.length_append, List.length_singleton]; omega, (HO5 _).out, (HB5 _).out⟩
              case measure => simp only [slLen]; omega
          · have q5 : decide (a2 < b2) = false := decide_eq_false hlt
            rw [if_neg hlt] at HR
            go_wp2_with fail
            go_quiet (fail)
            have HO5 := fun nq => Lib.hid (HO4.out.below (drewN_below _ nq))
            have HB5 := fun nq => Lib.hid (HB4.out.trans ((drewN_below _ nq).mono HB4.out.size))
            clear y1 y2 y3 y4
            have hca := HCC.out.1
            have hcb := HCC.out.2
            by_cases hc1 : cb = 0
            · subst hc1
              have HT5 := Lib.hid (HTB.out.tailZ HNB.out)
              obtain rfl := HT5.out.2
              have HT5 := Lib.hid HT5.out.1
              clear HDA HDB hlt he
              go_wp2_with fail
              have hna := HNA.out
              have hnb := HNB.out
              go_roundw
              case rel => exact ⟨(a1, a2) :: ta, tb, acc ++ [(lo, hi)], _, _, _, _, _, _, rfl, rfl, by simp only [List.length_cons]; omega, by omega, HTA.out, HT5.out, HR.out, by have hk := HKK.out; simp only [List.length_append, List.length_singleton]; omega, (HO5 _).out, (HB5 _).out⟩
              case measure => simp only [slLen]; omega
            · have HT5 := Lib.hid (HTB.out.tailS HNB.out)
              have z1 : (1 : Int) ≤ (nb : Int) + 1 := by omega
              have z1n : 1 ≤ nb + 1 := by omega
              have z3 : (nb : Int) + 1 ≤ (cb : Int) + 1 := by omega
              clear HDA HDB hlt he
              go_wp2_with fail
              have hna := HNA.out
              have hnb := HNB.out
              go_roundw
              case rel => exact ⟨(a1, a2) :: ta, tb, acc ++ [(lo, hi)], _, _, _, _, _, _, rfl, rfl, by simp only [List.length_cons]; omega, by omega, HTA.out, HT5.out, HR.out, by have hk := HKK.out; simp only [List.length_append, List.length_singleton]; omega, (HO5 _).out, (HB5 _).out⟩
              case measure => simp only [slLen]; omega
        · have e1 : decide (hi < lo) = true := decide_eq_true (by omega)
          rw [e1]
          rw [if_neg he, List.nil_append] at HR
          have y1 := c1
          have y2 := c2
          have y3 := c3
          have y4 := c4
          have HNA := Lib.hid hna
          have HNB := Lib.hid hnb
          have HKK := Lib.hid hk
          have HCC := Lib.hid (And.intro hca hcb)
          clear c1 c2 c3 c4 g1 g2 hna hnb hk hlo hhi q1 q1n q2 q2n hca hcb hga hgb
          by_cases hlt : a2 < b2
          · have q5 : decide (a2 < b2) = true := decide_eq_true hlt
            rw [if_pos hlt] at HR
            go_wp2_with fail
            go_quiet (fail)
            have HO5 := fun nq => Lib.hid (HO3.out.below (drewN_below _ nq))
            have HB5 := fun nq => Lib.hid (HB3.out.trans ((drewN_below _ nq).mono HB3.out.size))
            clear y1 y2 y3 y4
            have hca := HCC.out.1
            have hcb := HCC.out.2
            by_cases hc1 : ca = 0
            · subst hc1
              have HT5 := Lib.hid (HTA.out.tailZ HNA.out)
              obtain rfl := HT5.out.2
              have HT5 := Lib.hid HT5.out.1
              clear HDA HDB hlt he
              go_wp2_with fail
              have hna := HNA.out
              have hnb := HNB.out
              go_roundw
              case rel => exact ⟨ta, (b1, b2) :: tb, acc, _, _, _, _, _, _, rfl, rfl, by omega, by simp only [List.length_cons]; omega, HT5.out, HTB.out, HR.out, by have hk := HKK.out; omega, (HO5 _).out, (HB5 _).out⟩
              case measure => simp only [slLen]; omega
            · have HT5 := Lib.hid (HTA.out.tailS HNA.out)
              have z1 : (1 : Int) ≤ (na : Int) + 1 := by omega
              have z1n : 1 ≤ na + 1 := by omega
              have z3 : (na : Int) + 1 ≤ (ca : Int) + 1 := by omega
              clear HDA HDB hlt he
              go_wp2_with fail
              have hna := HNA.out
              have hnb := HNB.out
              go_roundw
              case rel => exact ⟨ta, (b1, b2) :: tb, acc, _, _, _, _, _, _, rfl, rfl, by omega, by simp only [List.length_cons]; omega, HT5.out, HTB.out, HR.out, by have hk := HKK.out; omega, (HO5 _).out, (HB5 _).out⟩
              case measure => simp only [slLen]; omega
          · have q5 : decide (a2 < b2) = false := decide_eq_false hlt
            rw [if_neg hlt] at HR
            go_wp2_with fail
            go_quiet (fail)
            have HO5 := fun nq => Lib.hid (HO3.out.below (drewN_below _ nq))
            have HB5 := fun nq => Lib.hid (HB3.out.trans ((drewN_below _ nq).mono HB3.out.size))
            clear y1 y2 y3 y4
            have hca := HCC.out.1
            have hcb := HCC.out.2
            by_cases hc1 : cb = 0
            · subst hc1
              have HT5 := Lib.hid (HTB.out.tailZ HNB.out)
              obtain rfl := HT5.out.2
              have HT5 := Lib.hid HT5.out.1
              clear HDA HDB hlt he
              go_wp2_with fail
              have hna := HNA.out
              have hnb := HNB.out
              go_roundw
              case rel => exact ⟨(a1, a2) :: ta, tb, acc, _, _, _, _, _, _, rfl, rfl, by simp only [List.length_cons]; omega, by omega, HTA.out, HT5.out, HR.out, by have hk := HKK.out; omega, (HO5 _).out, (HB5 _).out⟩
              case measure => simp only [slLen]; omega
            · have HT5 := Lib.hid (HTB.out.tailS HNB.out)
              have z1 : (1 : Int) ≤ (nb : Int) + 1 := by omega
              have z1n : 1 ≤ nb + 1 := by omega
              have z3 : (nb : Int) + 1 ≤ (cb : Int) + 1 := by omega
              clear HDA HDB hlt he
              go_wp2_with fail
              have hna := HNA.out
              have hnb := HNB.out
              go_roundw
              case rel => exact ⟨(a1, a2) :: ta, tb, acc, _, _, _, _, _, _, rfl, rfl, by simp only [List.length_cons]; omega, by omega, HTA.out, HT5.out, HR.out, by have hk := HKK.out; omega, (HO5 _).out, (HB5 _).out⟩
              case measure => simp only [slLen]; omega
end Go.Proofs.Ytfnpjdglfaaegaa
