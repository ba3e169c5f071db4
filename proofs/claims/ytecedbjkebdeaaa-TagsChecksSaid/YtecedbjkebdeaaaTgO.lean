/-
  Package tags: 'Check'.
-/
import Derived.Test.YtecedbjkebdeaaaTgY3
namespace Go.Proofs.Ytecedbjkebdeaaa
open Go.RowKit Go.Maps Go.WideElems Go.ChangeMaps Go.MapKept Go.Shelf
set_option linter.unusedVariables false
set_option linter.unusedSimpArgs false
set_option maxRecDepth 100000

theorem tg_load_midG {ops : Array Oper} {rest : List Oper} {op : Oper} {a : Act} {w : World} {Q : Exit → Act → World → Prop} (hw : Region.wanted op (yielded ops a.tmps) = true) (ty : TypeId) (x : Operand) (ho : op.op = .load ty x)
    (b o : Nat) (hx : a.eval x = .pointer (some ⟨b, o, none⟩)) (cs : List Value) (d : TypeDesc) (hc : w.rangeAt b o cs)
    (hu : Try.prog.underlying ty = some d) (hd : d.isRow = true) (hi : (Try.prog.info? ty).map (·.size) = some cs.length)
    (h : wpList Try.prog ops Q rest (a.put op.dst (.agg cs.toArray)) w) : wpList Try.prog ops Q (op :: rest) a w :=
  wpList_step fun K hK => by
    simp only [hw, if_true]
    exact wp_load_mid ty x ho b o hx cs d hc hu hd hi (hK _ _ h)
theorem phi_no : ∀ m, phi (fun _ => TS.no) m = 9 * m
  | 0 => rfl
  | m + 1 => by
    have := phi_no m
    have e : TS.no.l = [] := rfl
    unfold phi
    rw [this, e]
    simp only [List.length_nil]
    omega
theorem GI.new (l : EL) (Z : Int → Prop) (hl : l.n ≤ 1000000) : GI l Z (fun p => ((l.f p).auto, (l.f p).t)) (GL.new l.n) 0 :=
  ⟨GL.new_ok l Z, GL.new_wait l.n, by unfold GL.left; show phi (fun _ => TS.no) l.n + 0 ≤ 9 * l.n; rw [phi_no]; exact Nat.le_refl _, hl, Nat.zero_le _, fun p => Nat.le_refl _⟩
/-- what is settled, with all that is reached -/
theorem GFull.of {l : EL} {Z : Int → Prop} {G : GL} {c : Nat} {D : Nat → Bool × TT} (hI : GI l Z D G c) (hD : GDone l D G) (hR : ∀ p, p < l.n → p ∈ G.R) : GFull l G :=
  ⟨hI.ok.ln, fun p hp => ⟨hR p hp, fun x hx => by
    have hln := hI.ok.ln
    constructor
    · intro hs
      have := hI.ok.sn p (by omega) x hx hs
      rw [hI.ok.de p hp] at this
      exact this
    · intro hT
      have := (hD.all hI.ok hT p _ _ (by omega) (hD.ent p (hR p hp)) .here).1
      unfold inSet at this
      have hb := univ_pos hx
      split at this
      · exact this
      · obtain rfl : x = 1000 := by omega
        exact this⟩⟩
/-- whether all lies apart that must -/
def OkAll (l : EL) : Prop := ∀ p, p < l.n → (l.f p).auto = false → Rt l (l.f p).t
def RelC3 (B : Nat) (l : EL) (b : Nat) (V : GV) (w : World) (iv : Value) (wr : World) : Prop :=
  ∃ (i : Nat) (G' : GL) (V' : GV), i ≤ l.n ∧ iv = .int .i64 (i : Nat) ∧ GAt B wr b l G' V' ∧ Mv V.own w V'.own wr ∧ GI l (fun _ => True) (fun p => ((l.f p).auto, (l.f p).t)) G' 0 ∧ ∀ p, p < i → p ∈ G'.R
def RelC4 (B : Nat) (l : EL) (b : Nat) (G : GL) (V : GV) (w : World) (iv : Value) (wr : World) : Prop :=
  ∃ (i : Nat) (V' : GV), i ≤ l.n ∧ iv = .int .i64 (i : Nat) ∧ GAt B wr b l G V' ∧ JV b none V V' w wr ∧ ∀ p, p < i → (l.f p).auto = false → Rt l (l.f p).t
theorem e_at {e : ET} {B : Nat} {W : World} (h : EIn B W e) : e.cells.toArray[2]? = some (.bool e.auto) ∧ ∀ j v, e.t.cells[j]? = some v → e.cells.toArray[3 + j]? = some v :=
  ⟨rfl, fun j v hv => by rw [List.getElem?_toArray]; unfold ET.cells; rw [List.getElem?_append_right (by simp)]; simpa using hv⟩
set_option maxHeartbeats 16000000 in
theorem Check_ok (w : World) (l : EL) (hl : EOk w.heap.size w l) (hn : l.n ≤ 1000) (hz : ∀ p, p < l.n → (l.f p).t.sz ≤ 10000 ∧ (l.f p).t.wid ≤ 10000) :
    Calls Try.prog 7 #[.slice l.a l.n l.cap] w fun e w' => (∃ z : Int, e = .returned (.int .i64 z) ∧ ((z = 0 ∧ OkAll l) ∨ (z = 8 ∧ ¬ OkAll l))) ∧ Below w.heap.size w w' := by
  have HL := Lib.hid hl
  have HZ := Lib.hid hz
  have HN := Lib.hid (newGraph_ok w l (by omega))
  obtain ⟨N, hN⟩ : ∃ N, l.n = N := ⟨_, rfl⟩
  have HNN := Lib.hid hN
  rw [hN] at hn HN ⊢
  clear hl hz hN
  go_enter Try.func7, Try.ntmps7
  go_wp2_with fail
  refine HN.out.mono ?_
  rintro e w1 ⟨b, V, rfl, h1, h2⟩
  have HG1 := Lib.hid h1
  have HB1 := Lib.hid h2
  have hB1 : w.heap.size ≤ w1.heap.size := h2.size
  have HI0 := Lib.hid (GI.new l (fun _ => True) (by rw [HNN.out]; omega))
  clear h1 h2 HN
  go_wp2_with fail
  go_loopw [11] (fun iv wr => RelC3 w.heap.size l b V w1 iv wr) (fun iv _ => N - (Lib.intOf iv).toNat)
  case atStart => exact ⟨0, GL.new l.n, V, Nat.zero_le _, rfl, by rw [HNN.out]; exact HG1.out, Mv.refl _ _, HI0.out, fun p hp => absurd hp (Nat.not_lt_zero p)⟩
  case round =>
  obtain ⟨i, G', V', hi, rfl, hG', hM', hI', hR'⟩ := hrel
  rw [HNN.out] at hi
  have HGW := Lib.hid hG'
  have HMW := Lib.hid hM'
  have HIW := Lib.hid hI'
  have HRW := Lib.hid hR'
  have hBw : w.heap.size ≤ wr.heap.size := Nat.le_trans hB1 hM'.size
  clear hG' hM' hI' hR'
  by_cases hlt : i < N
  · have q4 : decide ((i : Int) < (N : Int)) = true := decide_eq_true (by omega)
    have q4n : decide (i < N) = true := decide_eq_true hlt
    have q5 : IntKind.i64.wrap ((i : Int) + 1) = ((i + 1 : Nat) : Int) := wrap_succ hlt (by omega)
    have HC := Lib.hid (reach_ok w.heap.size wr b l G' V' i HGW.out hBw (by have h1 := HIW.out.ok.ln; have h2 := HNN.out; omega) (by rw [HNN.out]; exact hlt) (fun hnl => HIW.out.empty (by have h1 := HIW.out.ok.ln; have h2 := HNN.out; omega) hnl) HIW.out.r)
    have HI2 := Lib.hid (HIW.out.reach (p := i) (by rw [HNN.out]; exact hlt) (fun _ _ => trivial))
    have HR2 := Lib.hid (show ∀ p, p < i + 1 → p ∈ (G'.reach i).R from fun p hp => by
      rcases Nat.lt_or_ge p i with h | h
      · exact (G'.reach_ext i).mem (HRW.out p h)
      · obtain rfl : p = i := by omega
        exact G'.reach_has p)
    go_wp2_with fail
    refine HC.out.mono ?_
    rintro e w2 ⟨rfl, V2, h1, h2⟩
    have HG2 := Lib.hid h1
    have HM2 := Lib.hid (HMW.out.trans h2)
    clear h1 h2 HC
    go_wp2_with fail
    go_roundw
    case rel => exact ⟨i + 1, G'.reach i, V2, by rw [HNN.out]; exact hlt, rfl, HG2.out, HM2.out, HI2.out, HR2.out⟩
    case measure => simp only [Lib.intOf]; omega
  · have q4 : decide ((i : Int) < (N : Int)) = false := decide_eq_false (by omega)
    have q4n : decide (i < N) = false := decide_eq_false hlt
    have hbw := (GAtL.below HG1.out HMW.out hB1)
    have HBW := Lib.hid (HB1.out.trans hbw)
    have HS := Lib.hid (settle_ok l (fun _ => True) (fun p => ((l.f p).auto, (l.f p).t)) w.heap.size wr b G' V' 0 hBw (HL.out.below (HB1.out.trans hbw) (Nat.le_refl _)) HGW.out HIW.out (fun p hp => (HZ.out p hp).2) (by rw [HNN.out]; omega))
    have HRI := Lib.hid (show ∀ p, p < l.n → p ∈ G'.R from fun p hp => HRW.out p (by have := HNN.out; omega))
    clear hbw HRW
    go_wp2_with fail
    refine HS.out.mono ?_
    rintro e w2 ⟨rfl, G2, V2, h1, h2, h3, h4, h5⟩
    have HF := Lib.hid (GFull.of h3 h5 (fun p hp => h4.mem (HRI.out p hp)))
    have HG2 := Lib.hid h1
    have HB2 := Lib.hid (HBW.out.trans (GAtL.below HGW.out h2 hBw))
    have hB2 : w.heap.size ≤ w2.heap.size := Nat.le_trans hBw h2.size
    clear h1 h2 h3 h4 h5 HS
    go_wp2_with fail
    go_loopw [22] (fun iv wx => RelC4 w.heap.size l b G2 V2 w2 iv wx) (fun iv _ => N - (Lib.intOf iv).toNat)
    case atStart => exact ⟨0, V2, Nat.zero_le _, rfl, HG2.out, JV.refl _ _ _ _, fun p hp => absurd hp (Nat.not_lt_zero p)⟩
    case round =>
    clear q4 q4n
    rename World => w3
    obtain ⟨i2, V3, hi2, rfl, hG3, hJ3, hR3⟩ := hrel
    rw [HNN.out] at hi2
    have HB3 := Lib.hid (HB2.out.trans (hJ3.below HG2.out hB2 (fun k hk => by cases hk)))
    have HG3 := Lib.hid hG3
    have HJ3 := Lib.hid hJ3
    have HR3 := Lib.hid hR3
    have hB3 : w.heap.size ≤ w3.heap.size := HB3.out.size
    have hs23 := hJ3.jm.size
    clear hG3 hJ3 hR3
    by_cases hlt2 : i2 < N
    · have q4 : decide ((i2 : Int) < (N : Int)) = true := decide_eq_true (by omega)
      have q4n : decide (i2 < N) = true := decide_eq_true hlt2
      have q5 : IntKind.i64.wrap ((i2 : Int) + 1) = ((i2 + 1 : Nat) : Int) := wrap_succ hlt2 (by omega)
      have hil : i2 < l.n := by rw [HNN.out]; exact hlt2
      obtain ⟨gx, ox, hix, hgx, hrd⟩ := eRow_read HL.out.el hil
      rw [HNN.out] at hix
      have HRD := Lib.hid (hrd w3 (HB3.out.block gx hgx))
      have hein := HL.out.el.2 i2 hil
      have H1E := Lib.hid (one_ecells hein)
      have htin := hein.2.2
      have H1T := Lib.hid (one_tcells htin)
      have HXN := Lib.hid (Bx.new w3 (l.f i2).cells.toArray 46)
      have HRT := Lib.hid (fun o => (show ((w3.alloc (.cells (l.f i2).cells.toArray 46)).alloc o).rangeAt w3.heap.size 3 (l.f i2).t.cells from fun j v hv => (HXN.out.alloc o).cell (3 + j) ((e_at hein).2 j v hv)))
      have de := HXN.out.cell 2 (e_at hein).1
      have hb1 := (Below.refl w3.heap.size w3).alloc (Nat.le_refl _) (.cells (l.f i2).cells.toArray 46)
      have HBA := Lib.hid hb1
      have hsa : (w3.alloc (.cells (l.f i2).cells.toArray 46)).heap.size = w3.heap.size + 1 := by simp
      obtain ⟨au, hau⟩ : ∃ au, (l.f i2).auto = au := ⟨_, rfl⟩
      rw [hau] at de
      cases au with
      | true =>
        have HR4 := Lib.hid (show ∀ p, p < i2 + 1 → (l.f p).auto = false → Rt l (l.f p).t from fun p hp ha => by
          rcases Nat.lt_or_ge p i2 with h | h
          · exact HR3.out p h ha
          · obtain rfl : p = i2 := by omega
            rw [hau] at ha
            cases ha)
        have HG4 := Lib.hid (show GAt w.heap.size (w3.alloc (.cells (l.f i2).cells.toArray 46)) b l G2 V3 from GAtL.alloc HG3.out _)
        have HJ4 := Lib.hid (HJ3.out.trans (JV.of_below hb1))
        clear hrd hein htin hb1 hau
        go_wp2_with (first | (refine wpList_store_new rfl 46 (.tmp 6) (.tmp 25) rfl 18 _ (l.f i2).cells H1E.out.1 (by kernel_rfl) info_E H1E.out.2 rfl rfl ?_) | (refine wpList_load_mid rfl 46 (.tmp 24) rfl gx ox rfl (l.f i2).cells _ HRD.out Try.underlying46 rfl (by rw [info_E, H1E.out.1]) ?_))
        go_roundw
        case rel => exact ⟨i2 + 1, V3, hil, rfl, HG4.out, HJ4.out, HR4.out⟩
        case measure => simp only [Lib.intOf]; omega
      | false =>
        have hmk := mk_set
        have hb2 := hb1.alloc (by omega) (.map #[] 0)
        have hno : V3.own (w3.heap.size + 1) = .no := Classical.byContradiction fun h => by have := (HG3.out.lo _ h).2; omega
        have HBB := Lib.hid hb2
        have hbw := HB3.out.trans (hb2.mono hB3)
        have HC := Lib.hid (join_ok l G2 w.heap.size HF.out 10000 (l.f i2).t (HZ.out i2 hil).1 (Nat.le_refl _) ((w3.alloc (.cells (l.f i2).cells.toArray 46)).alloc (.map #[] 0)) b (w3.heap.size + 1) V3 TS.no (GAtL.alloc (GAtL.alloc HG3.out _) _) (Nat.le_trans hB3 hb2.size) (HL.out.below hbw (Nat.le_refl _)) (htin.below hbw (Nat.le_refl _)) (by rw [← hsa]; exact SetAt.made _ TS.no rfl) hno (by omega))
        have HAU := Lib.hid hau
        clear hrd hein htin hb1 hb2 hbw hno hau
        go_wp2_with (first | (refine wpList_store_new rfl 46 (.tmp 6) (.tmp 25) rfl 18 _ (l.f i2).cells H1E.out.1 (by kernel_rfl) info_E H1E.out.2 rfl rfl ?_) | (refine wpList_load_mid rfl 46 (.tmp 24) rfl gx ox rfl (l.f i2).cells _ HRD.out Try.underlying46 rfl (by rw [info_E, H1E.out.1]) ?_) | (refine tg_load_midG (by rfl) 35 (.tmp 32) rfl w3.heap.size 3 rfl (l.f i2).t.cells _ (HRT.out _) Try.underlying35 rfl (by rw [info_T, H1T.out.1]) ?_))
        refine HC.out.mono ?_
        rintro e w4 ⟨r, V4, rfl, h1, h2, h3, h4⟩
        have HG4 := Lib.hid h1
        have HJ4 := Lib.hid (show JV b none V2 V4 w2 w4 from JV.fresh (HJ3.out.trans (JV.of_below HBB.out)) h2 (by omega))
        have HY := Lib.hid h3
        have HNO := Lib.hid h4
        clear h1 h2 h3 h4 de HC
        cases r with
        | true =>
          have HR4 := Lib.hid (show ∀ p, p < i2 + 1 → (l.f p).auto = false → Rt l (l.f p).t from fun p hp ha => by
            rcases Nat.lt_or_ge p i2 with h | h
            · exact HR3.out p h ha
            · obtain rfl : p = i2 := by omega
              exact (HY.out (by first | rfl | trivial)).1)
          go_wp2_with fail
          go_roundw
          case rel => exact ⟨i2 + 1, V4, hil, rfl, HG4.out, HJ4.out, HR4.out⟩
          case measure => simp only [Lib.intOf]; omega
        | false =>
          go_wp2_with fail
          go_ret
          refine ⟨⟨8, rfl, .inr ⟨rfl, fun hok => HNO.out (by first | rfl | trivial) ⟨hok i2 hil HAU.out, fun x _ hs => by cases hs⟩⟩⟩, HB2.out.trans (HJ4.out.below HG2.out hB2 (fun k hk => by cases hk))⟩
    · have q4 : decide ((i2 : Int) < (N : Int)) = false := decide_eq_false (by omega)
      have q4n : decide (i2 < N) = false := decide_eq_false hlt2
      have HE := Lib.hid (show i2 = l.n by have := HNN.out; omega)
      go_wp2_with fail
      go_ret
      exact ⟨⟨0, rfl, .inl ⟨rfl, fun p hp => HR3.out p (by rw [HE.out]; exact hp)⟩⟩, HB3.out⟩
end Go.Proofs.Ytecedbjkebdeaaa
