/-
  Package tags: 'enter', its walk.
-/
import Derived.Test.YtecedbjkebdeaaaTgN
namespace Go.Proofs.Ytecedbjkebdeaaa
open Go.RowKit Go.Maps Go.WideElems Go.ChangeMaps Go.MapKept Go.Shelf
set_option linter.unusedVariables false
set_option linter.unusedSimpArgs false
set_option maxRecDepth 100000

theorem RowAt.congr {B : Nat} {W : World} {a : Option Addr} {n cap k : Nat} {f g : Nat → List Value} (h : RowAt B W a n cap k f) (he : ∀ i, i < n → f i = g i) : RowAt B W a n cap k g :=
  ⟨h.1, h.2.1, h.2.2.1, fun hn => by
    obtain ⟨gb, o, ha, hg, hc⟩ := h.2.2.2 hn
    exact ⟨gb, o, ha, hg, fun i hi j u hu => hc i hi j u (by rw [he i hi]; exact hu)⟩⟩
/-- what a type's cells hold, as package tags reads them -/
structure TCells (B : Nat) (W : World) (t : TT) (pa : Option Addr) (pc : Nat) (aa : Option Addr) (ac : Nat) (ea : Option Addr) (ec : Nat) : Prop where
  len : t.cells.length = 15
  one : ∀ v ∈ t.cells, v.oneCell' = true
  kd : t.cells.toArray[0]? = some (.int .i64 t.kd)
  nm : t.cells.toArray[1]? = some (.string t.nam)
  ps : t.cells.toArray[12]? = some (.slice pa t.pn pc)
  ads : t.cells.toArray[13]? = some (.slice aa t.an ac)
  es : t.cells.toArray[14]? = some (.slice ea t.en ec)
  ns : t.nam.size ≤ 140737488355328
  k64 : I64 t.kd
  pr : RowAt B W pa t.pn pc 18 (fun i => pcells (t.ald i) (t.alt i))
  ar : RowAt B W aa t.an ac 18 (fun i => pcells (t.ald (t.pn + i)) (t.alt (t.pn + i)))
  al : ∀ i, i < t.nal → PDIn B W (t.ald i) ∧ TIn B W (t.alt i)
  er : RowAt B W ea t.en ec 15 (fun i => (t.et i).cells)
  el : ∀ i, i < t.en → TIn B W (t.et i)
theorem TIn.tcells {B : Nat} {W : World} {t : TT} (h : TIn B W t) : ∃ pa pc aa ac ea ec, TCells B W t pa pc aa ac ea ec := by
  have h1 := one_tcells h
  cases t with
  | nil => exact h.elim
  | mk kd tn con ext fr nm mo pa pt ad at_ ea en ec et =>
    cases con with
    | nil => exact h.1.2.2.1.elim
    | mk op lo hi lw hg ca cn cc cch =>
      refine ⟨pa.a, pa.cap, ad.a, ad.cap, ea, ec, h1.1, h1.2, rfl, rfl, rfl, rfl, rfl, h.1.2.1, h.1.1, ?_, ?_, ?_, h.2.2.2.1, h.2.2.2.2⟩
      · exact h.2.1.1.congr fun i hi => by
          show _ = pcells (if i < pa.n then pa.f i else _) (if i < pa.n then pt i else _)
          have hi' : i < pa.n := hi
          rw [if_pos hi', if_pos hi']
      · exact h.2.2.1.1.congr fun i hi => by
          show _ = pcells (if pa.n + i < pa.n then _ else ad.f (pa.n + i - pa.n)) (if pa.n + i < pa.n then _ else at_ (pa.n + i - pa.n))
          rw [if_neg (by omega), if_neg (by omega), Nat.add_sub_cancel_left]
      · intro i hi
        have hi' : i < pa.n + ad.n := hi
        show PDIn B W (if i < pa.n then pa.f i else ad.f (i - pa.n)) ∧ TIn B W (if i < pa.n then pt i else at_ (i - pa.n))
        by_cases hp : i < pa.n
        · rw [if_pos hp, if_pos hp]
          exact h.2.1.2 i hp
        · rw [if_neg hp, if_neg hp]
          exact h.2.2.1.2 (i - pa.n) (by omega)
theorem PRow.congr {base : Nat} {W : World} {v : Value} {n : Nat} {f g : Nat → List Value} (h : PRow base W v n f) (he : ∀ i, i < n → f i = g i) : PRow base W v n g := by
  obtain ⟨a, cap, rfl, hn, hc⟩ := h
  refine ⟨a, cap, rfl, hn, fun i hi => ?_⟩
  rw [← he i hi]
  exact hc i hi
/-- a part's type among a part's cells -/
theorem part_range {W : World} {g o : Nat} {p : PD} {t : TT} (h : W.rangeAt g o (pcells p t)) : W.rangeAt g (o + 1) t.cells := by
  intro j v hv
  have := h (1 + j) v (by
    unfold pcells
    rw [List.append_assoc, List.getElem?_append_right (by simp), List.getElem?_append_left (by simpa using (List.getElem?_eq_some_iff.1 hv).1)]
    simpa using hv)
  rw [Nat.add_assoc]
  exact this
def RelEn (B : Nat) (l : EL) (Z : Int → Prop) (D : Nat → Bool × TT) (b n c : Nat) (t : TT) (G : GL) (V : GV) (w1 : World) (iv : Value) (wr : World) : Prop :=
  ∃ (i : Nat) (G' : GL) (V' : GV), i ≤ t.nal ∧ iv = .int .i64 (i : Nat) ∧ GAt B wr b l G' V' ∧ Mv V.own w1 V'.own wr ∧ GI l Z D G' (c + sumW (fun j => (t.alt j).wid) i) ∧ GExt G G' ∧ ∀ j, j < i → Req l G' n false (t.alt j)
set_option maxHeartbeats 8000000 in
theorem enter_ok (l : EL) (Z : Int → Prop) (D : Nat → Bool × TT) : ∀ (k : Nat) (t : TT) (a : Bool) (B : Nat) (w : World) (b : Nat) (G : GL) (V : GV) (n c : Nat), t.wid ≤ k → k ≤ 10000 → TIn B w t → B ≤ w.heap.size → EOk B w l → GAt B w b l G V → GI l Z D G c → n < G.m → G.live l n →
    (∀ x, Tg l a t x → Tg l (D n).1 (D n).2 x) → (∀ x, Tg l a t x → Z x) → c + t.wid ≤ 1000000000 →
    Calls Try.prog 25 #[.pointer (some ⟨b, 0, none⟩), .int .i64 (n : Nat), .bool a, .agg t.cells.toArray] w fun e w' => e = .returned (.tuple #[]) ∧ ∃ G' V', GAt B w' b l G' V' ∧ Mv V.own w V'.own w' ∧ GI l Z D G' (c + t.wid) ∧ GExt G G' ∧ Req l G' n a t := by
  intro k
  induction k with
  | zero => intro t a B w b G V n c h0; have := t.wid_pos; omega
  | succ k ih =>
  intro t a B w b G V n c hwk hk ht hB hl hG hI hn hlv hT hZ hc
  obtain ⟨pa, pc, aa, ac, ea, ec, TC⟩ := ht.tcells
  have HTC := Lib.hid TC
  have HXN := Lib.hid (Bx.new w t.cells.toArray 35)
  have c0 := HXN.out.cell 0 TC.kd
  have c1 := HXN.out.cell 1 TC.nm
  have c12 := HXN.out.cell 12 TC.ps
  have c13 := HXN.out.cell 13 TC.ads
  have hns := TC.ns
  have HB0 := Lib.hid (show Below w.heap.size w (w.alloc (.cells t.cells.toArray 35)) from (Below.refl w.heap.size w).alloc (Nat.le_refl _) _)
  have HGA := Lib.hid (show GAt B (w.alloc (.cells t.cells.toArray 35)) b l G V from GAtL.alloc hG _)
  have HMA := Lib.hid (Mv.alloc V.own w (.cells t.cells.toArray 35) (fun k hk => (hG.lo k hk).2))
  have HLA := Lib.hid (hl.below (HB0.out.mono hB) (Nat.le_refl _))
  have HBA := Lib.hid (show B ≤ (w.alloc (.cells t.cells.toArray 35)).heap.size by simp; omega)
  have hwp := t.wid_pos
  have hnw := t.nal_wid
  clear TC
  by_cases h11 : t.kd = 11
  · obtain ⟨h1, h2, h3⟩ := hI.refer (t := t) hn hlv h11 hT hZ
    have HFI := Lib.hid (And.intro (h1.mono (show c + 1 ≤ c + t.wid by omega)) (And.intro h2 h3))
    have HRF := Lib.hid (refer_ok B _ b l G V n t.nam HGA.out HBA.out HLA.out (by omega) hI.ok.ln (by have := hI.m; omega) (fun p hp => by
      by_cases hpm : p < G.m
      · exact hI.empty hpm hp
      · exact absurd (.inr (by have := hI.ok.ln; omega)) hp) hI.r (fun p => by have := hI.el p; omega))
    have q1 : ((11 : Int) == 11) = true := rfl
    rw [h11] at c0
    clear h1 h2 h3 c12 c13
    go_enter Try.func25, Try.ntmps25
    go_wp2_with fail
    refine HRF.out.mono ?_
    rintro e w2 ⟨rfl, V2, h4, h5⟩
    have H4 := Lib.hid h4
    have H5 := Lib.hid h5
    clear h4 h5
    go_wp2_with fail
    go_end0
    exact ⟨rfl, _, V2, H4.out, HMA.out.trans H5.out, HFI.out⟩
  · have q1 : (t.kd == 11) = false := beq_eq_false_iff_ne.2 h11
    by_cases h10 : t.kd = 10
    · rw [h10] at c0 q1
      have q2 : ((10 : Int) != 10) = false := rfl
      cases a with
      | true =>
        obtain ⟨h1, h2, h3⟩ := hI.auto (t := t) hn hlv h10 (by omega) hT hZ
        have HFI := Lib.hid (And.intro (h1.mono (show c ≤ c + t.wid by omega)) (And.intro h2 h3))
        have HAU := Lib.hid (auto_ok B _ b l G V n t.nal HGA.out HBA.out hn hlv hI.q (by omega) (by have := hI.most; omega))
        have q3 : IntKind.i64.wrap ((t.pn : Int) + (t.an : Int)) = (t.nal : Int) := (wrap_ok (x := (t.pn : Int) + (t.an : Int)) (by unfold I64; unfold TT.nal at hnw; omega)).trans (by unfold TT.nal; omega)
        clear h1 h2 h3
        go_enter Try.func25, Try.ntmps25
        go_wp2_with fail
        refine HAU.out.mono ?_
        rintro e w2 ⟨rfl, V2, h4, h5⟩
        have H4 := Lib.hid h4
        have H5 := Lib.hid h5
        clear h4 h5
        go_wp2_with fail
        go_end0
        exact ⟨rfl, _, V2, H4.out, HMA.out.trans H5.out, HFI.out⟩
      | false =>
        have TC := HTC.out
        have HCC := Lib.hid (fun (W2 : World) (g0 : Nat) (hb : Below w.heap.size w W2) (hg0 : g0 < W2.heap.size) (e0 : W2.cell? ⟨g0, 0, none⟩ = some (.slice pa t.pn pc)) (e1 : W2.cell? ⟨g0, 1, none⟩ = some (.slice aa t.an ac)) =>
          concat_ok W2 B g0 pa t.pn pc _ aa t.an ac _ (Nat.le_trans hB hb.size) hg0 e0 e1 (TC.pr.below (hb.mono hB) (Nat.le_refl _)) (TC.ar.below (hb.mono hB) (Nat.le_refl _)) (fun i hi => (one_pcells (TC.al i (by unfold TT.nal; omega)).2).1) (fun i hi => (one_pcells (TC.al (t.pn + i) (by unfold TT.nal; omega)).2).1) (fun i hi => (one_pcells (TC.al i (by unfold TT.nal; omega)).2).2) (fun i hi => (one_pcells (TC.al (t.pn + i) (by unfold TT.nal; omega)).2).2) (by unfold TT.nal at hnw; omega) (by unfold TT.nal at hnw; omega))
        have HBC := Lib.hid (show Below w.heap.size w ((w.alloc (.cells t.cells.toArray 35)).alloc (.cells #[.slice pa t.pn pc, .slice aa t.an ac] 32)) from HB0.out.alloc (by simp) _)
        have HBY := Lib.hid (Bx.new (w.alloc (.cells t.cells.toArray 35)) #[.slice pa t.pn pc, .slice aa t.an ac] 32)
        have HSW := Lib.hid (show (w.alloc (.cells t.cells.toArray 35)).heap.size = w.heap.size + 1 by simp)
        have HCX := Lib.hid (HCC.out _ (w.heap.size + 1) HBC.out (by simp) (by rw [← HSW.out]; exact HBY.out.cell 0 rfl) (by rw [← HSW.out]; exact HBY.out.cell 1 rfl))
        have HSZ := Lib.hid HBC.out.size
        clear HCC
        go_enter Try.func25, Try.ntmps25
        go_wp2_with fail
        refine HCX.out.mono ?_
        rintro e w1 ⟨v, rfl, hpr, hb⟩
        have hb1 : Below w.heap.size w w1 := HBC.out.trans (hb.mono HSZ.out)
        obtain ⟨hg1, hm1⟩ := GAtL.of_below hG hb1
        have hpr2 := hpr.congr (g := fun i => pcells (t.ald i) (t.alt i)) (fun i hi => by
          by_cases hp : i < t.pn
          · show (if i < t.pn then _ else _) = _
            rw [if_pos hp]
          · show (if i < t.pn then _ else _) = _
            rw [if_neg hp, show t.pn + (i - t.pn) = i by omega])
        obtain ⟨va, vc, hve, hvn, hvr⟩ := hpr2
        subst hve
        have HG1 := Lib.hid hg1
        have HM1 := Lib.hid hm1
        have HB1 := Lib.hid hb1
        have HS1 := Lib.hid (show w.heap.size ≤ w1.heap.size from hb1.size)
        have HLO := Lib.hid hG.lo
        obtain ⟨N, hN⟩ : ∃ N, t.pn + t.an = N := ⟨_, rfl⟩
        have HN := Lib.hid (show t.nal = N from hN)
        rw [hN] at hvr hvn ⊢
        have HVR := Lib.hid hvr
        have hN3 : N ≤ 10000 := by have := HN.out; omega
        clear hpr hb hb1 hg1 hm1 hvr hvn c0 c1 c12 c13 HCX
        go_wp2_with fail
        go_loopw [17] (fun iv wr => RelEn B l Z D b n c t G V w1 iv wr) (fun iv _ => N - (Lib.intOf iv).toNat)
        case atStart => exact ⟨0, G, V, Nat.zero_le _, rfl, HG1.out, Mv.refl _ _, hI, GExt.refl _, fun j hj => by omega⟩
        case round =>
        obtain ⟨i, G', V', hi, rfl, hG', hM', hI', hE', hR'⟩ := hrel
        rw [HN.out] at hi
        have HBW := Lib.hid ((HB1.out.mono hB).trans (GAtL.below HG1.out hM' (Nat.le_trans hB HS1.out)))
        have HGW := Lib.hid hG'
        have HMW := Lib.hid hM'
        have HIW := Lib.hid hI'
        have HEW := Lib.hid hE'
        have HRW := Lib.hid hR'
        clear hG' hM' hI' hE' hR'
        by_cases hlt : i < N
        · have q4 : decide ((i : Int) < (N : Int)) = true := decide_eq_true (by omega)
          have q4n : decide (i < N) = true := decide_eq_true hlt
          have q5 : IntKind.i64.wrap ((i : Int) + 1) = ((i + 1 : Nat) : Int) := wrap_succ hlt (by omega)
          obtain ⟨g, o, hix, hg1, hg2, hrd⟩ := HVR.out i hlt
          have hno : V.own g = .no := Classical.byContradiction fun hne => by
            have h1 := (HLO.out g hne).2
            have h2 := HSZ.out
            omega
          have hblk := (HMW.out.block g hg2 hno).1
          have hal : i < t.nal := by rw [HN.out]; exact hlt
          have HRD := Lib.hid (show wr.rangeAt g o (pcells (t.ald i) (t.alt i)) from fun j v hv => (World.cell?_of_block (w := w1) (a := ⟨g, o + j, none⟩) hblk).trans (hrd j v hv))
          have htal := (HTC.out.al i hal).2
          have H1 := Lib.hid (one_pcells (p := t.ald i) htal)
          have H1T := Lib.hid (one_tcells htal)
          have HX := Lib.hid (Bx.new wr (pcells (t.ald i) (t.alt i)).toArray 42)
          have HXT := Lib.hid (show (wr.alloc (.cells (pcells (t.ald i) (t.alt i)).toArray 42)).rangeAt wr.heap.size 1 (t.alt i).cells from by have h := part_range HX.out.range; rw [Nat.zero_add] at h; exact h)
          have hsum : sumW (fun j => (t.alt j).wid) (i + 1) = sumW (fun j => (t.alt j).wid) i + (t.alt i).wid := rfl
          have hsum2 : sumW (fun j => (t.alt j).wid) (i + 1) ≤ sumW (fun j => (t.alt j).wid) t.nal := sumW_mono (by omega)
          have hweq := t.wid_eq
          have hbw2 := HBW.out.alloc (by have := HBW.out.size; omega) (.cells (pcells (t.ald i) (t.alt i)).toArray 42)
          have HIH := Lib.hid (ih (t.alt i) false B (wr.alloc (.cells (pcells (t.ald i) (t.alt i)).toArray 42)) b G' V' n (c + sumW (fun j => (t.alt j).wid) i) (by have := TT.alt_wid hal; omega) (by omega) (htal.below hbw2 (Nat.le_refl _)) (Nat.le_trans hB hbw2.size) (hl.below hbw2 (Nat.le_refl _)) (GAtL.alloc HGW.out _) HIW.out (by rw [HEW.out.m]; exact hn) (HEW.out.live hlv)
            (fun x hx => hT x (.alt h10 hal hx)) (fun x hx => hZ x (.alt h10 hal hx)) (by omega))
          have HMB := Lib.hid (Mv.alloc V'.own wr (.cells (pcells (t.ald i) (t.alt i)).toArray 42) (fun k hk => (HGW.out.lo k hk).2))
          clear hrd hblk hno hbw2 htal hsum2 hweq
          go_wp2_with (first | (refine wpList_store_new rfl 42 (.tmp 9) (.tmp 20) rfl 18 _ (pcells (t.ald i) (t.alt i)) H1.out.1 (by kernel_rfl) info_P H1.out.2 rfl rfl ?_) | (refine wpList_load_mid rfl 42 (.tmp 19) rfl g o rfl (pcells (t.ald i) (t.alt i)) _ HRD.out Try.underlying42 rfl (by rw [info_P, H1.out.1]) ?_) | (refine wpList_load_mid rfl 35 (.tmp 23) rfl wr.heap.size 1 rfl (t.alt i).cells _ HXT.out Try.underlying35 rfl (by rw [info_T, H1T.out.1]) ?_))
          refine HIH.out.mono ?_
          rintro e w2 ⟨rfl, G2, V2, hG2, hM2, hI2, hE2, hR2⟩
          have HG2 := Lib.hid hG2
          have HM2 := Lib.hid (HMW.out.trans (HMB.out.trans hM2))
          have HI2 := Lib.hid hI2
          have HE2 := Lib.hid (HEW.out.trans hE2)
          have HR2 := Lib.hid (show ∀ j, j < i + 1 → Req l G2 n false (t.alt j) from fun j hj => by
            rcases Nat.lt_or_ge j i with h | h
            · exact (HRW.out j h).ext hE2
            · obtain rfl : j = i := by omega
              exact hR2)
          clear hG2 hM2 hI2 hE2 hR2 HIH
          go_wp2_with fail
          go_roundw
          case rel => exact ⟨i + 1, G2, V2, hal, rfl, HG2.out, HM2.out, by rw [hsum, ← Nat.add_assoc]; exact HI2.out, HE2.out, HR2.out⟩
          case measure => simp only [Lib.intOf]; omega
        · have q4 : decide ((i : Int) < (N : Int)) = false := decide_eq_false (by omega)
          have q4n : decide (i < N) = false := decide_eq_false hlt
          go_wp2_with fail
          go_end0
          refine ⟨rfl, G', V', HGW.out, HM1.out.trans HMW.out, HIW.out.mono ?_, HEW.out, Req.alts h10 (fun j hj => HRW.out j (by have := HN.out; omega))⟩
          have h1 := sumW_mono (f := fun j => (t.alt j).wid) (show i ≤ t.nal by rw [HN.out]; exact hi)
          have h2 := t.wid_eq
          omega
    · have q2 : (t.kd != 10) = true := bne_iff_ne.2 h10
      have HUN := Lib.hid (universal_ok (w.alloc (.cells t.cells.toArray 35)) t.kd)
      obtain ⟨h1, h2, h3⟩ := hI.leaf (t := t) (a := a) hn hlv h11 h10 hT
      have HFI := Lib.hid (And.intro (h1.mono (show c ≤ c + t.wid by omega)) (And.intro h2 h3))
      have HGV := Lib.hid (fun (w1 : World) (p : Option Nat) (hb : Below (w.alloc (.cells t.cells.toArray 35)).heap.size (w.alloc (.cells t.cells.toArray 35)) w1) (ht : TagsAt w1 p (uni t.kd)) => And.intro (GAtL.of_below HGA.out hb).2 (give_ok B w1 b l G V n p (uni t.kd) (GAtL.of_below HGA.out hb).1 (Nat.le_trans HBA.out hb.size) hn hlv ht hI.q))
      obtain ⟨kd, hkd⟩ : ∃ kd, t.kd = kd := ⟨_, rfl⟩
      rw [hkd] at c0 q1 q2 HUN
      clear h1 h2 h3 c12 c13
      go_enter Try.func25, Try.ntmps25
      go_wp2_with fail
      refine HUN.out.mono ?_
      rintro e w1 ⟨p, rfl, h4, h5⟩
      obtain ⟨h6, h7⟩ := HGV.out w1 p h5 (by rw [hkd]; exact h4)
      have H6 := Lib.hid h6
      have H7 := Lib.hid h7
      clear h4 h5 h6 h7
      go_wp2_with fail
      refine H7.out.mono ?_
      rintro e w2 ⟨rfl, V2, h8, h9⟩
      have H8 := Lib.hid h8
      have H9 := Lib.hid h9
      clear h8 h9
      go_wp2_with fail
      go_end0
      exact ⟨rfl, _, V2, H8.out, HMA.out.trans (H6.out.trans H9.out), HFI.out⟩
end Go.Proofs.Ytecedbjkebdeaaa
