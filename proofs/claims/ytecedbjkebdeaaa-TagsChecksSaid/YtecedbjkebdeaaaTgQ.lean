/-
  Package tags: 'settle'.
-/
import Derived.Test.YtecedbjkebdeaaaTgN2
import Derived.Test.YtecedbjkebdeaaaTgH
import Derived.Deep.RegionHeld3
import Derived.Deep.RegionLaw
namespace Go.Proofs.Ytecedbjkebdeaaa
open Go.RowKit Go.BigFrame Go.Maps Go.WideElems Go.ChangeMaps Go.MapKept Go.Shelf
set_option linter.unusedVariables false
set_option linter.unusedSimpArgs false
set_option maxRecDepth 100000

theorem list15 {α : Type} : ∀ (l : List α), l.length = 15 → ∃ v0 v1 v2 v3 v4 v5 v6 v7 v8 v9 v10 v11 v12 v13 v14, l = [v0, v1, v2, v3, v4, v5, v6, v7, v8, v9, v10, v11, v12, v13, v14]
  | [v0, v1, v2, v3, v4, v5, v6, v7, v8, v9, v10, v11, v12, v13, v14], _ => ⟨v0, v1, v2, v3, v4, v5, v6, v7, v8, v9, v10, v11, v12, v13, v14, rfl⟩
theorem own_slice {w : World} {B n : Nat} {v : Value} {e : TypeId} {xs : List Value} (h : w.ownsRow B e 1 v n xs) : ∃ a cap, v = .slice a n cap := by
  rcases h.2 with ⟨rfl, h0⟩ | ⟨g, cap, cur, rfl, _⟩
  · exact ⟨none, 0, by rw [h0]⟩
  · exact ⟨_, _, rfl⟩
def RelS1 (B : Nat) (l : EL) (Z : Int → Prop) (D : Nat → Bool × TT) (b c : Nat) (G : GL) (V : GV) (w : World) (iv : Value) (wr : World) : Prop :=
  ∃ (i : Nat) (G' : GL) (V' : GV), i ≤ G'.R.length ∧ iv = .int .i64 (i : Nat) ∧ GAt B wr b l G' V' ∧ Mv V.own w V'.own wr ∧ GI l Z D G' (c + i * 10000) ∧ GExt G G' ∧ ∀ j p, j < i → G'.R[j]? = some p → Req l G' p (l.f p).auto (l.f p).t
theorem GAtL.drew {B : Nat} {w : World} {b : Nat} {l : EL} {G : GL} {L : Nat → Prop} {V : GV} (h : GAtL B w b l G L V) : GAtL B w.drew b l G L V := h.keep (Nat.le_refl _) (fun _ _ => rfl)
theorem Mv.drew (own : Nat → Role) (w : World) : Mv own w own w.drew := ⟨rfl, rfl, rfl, Nat.le_refl _, fun k _ ho => ⟨rfl, ho⟩⟩
theorem Mv.under {o1 o2 : Nat → Role} {w w' : World} (h : Mv o1 w o2 w'.drew) : Mv o1 w o2 w' := ⟨h.os, h.tape, h.output, h.size, h.block⟩
def RelS2 (B : Nat) (l : EL) (Z : Int → Prop) (D : Nat → Bool × TT) (b c : Nat) (G : GL) (V : GV) (w : World) (iv : Value) (wr : World) : Prop :=
  ∃ (k : Nat) (G' : GL) (V' : GV), k ≤ G'.Q.length ∧ iv = .int .i64 (k : Nat) ∧ GAt B wr b l G' V' ∧ Mv V.own w V'.own wr ∧ GI l Z D G' c ∧ GExt G G' ∧ (∀ p, p ∈ G'.R → Req l G' p (l.f p).auto (l.f p).t) ∧ GHand G' k
def RelS3 (B : Nat) (l : EL) (Z : Int → Prop) (D : Nat → Bool × TT) (b c k n0 : Nat) (G : GL) (V : GV) (w : World) (iv : Value) (wr : World) : Prop :=
  ∃ (i : Nat) (G' : GL) (V' : GV), i ≤ (G.E n0).length ∧ iv = .int .i64 (i : Nat) ∧ GAt B wr b l G' V' ∧ Mv V.own w V'.own wr ∧ GI l Z D G' c ∧ GExt G G' ∧ G'.E = G.E ∧ G'.R = G.R ∧ V'.ev = V.ev ∧ k < G'.Q.length ∧ GHand2 G' k n0 i
set_option maxHeartbeats 16000000 in
theorem settle_ok (l : EL) (Z : Int → Prop) (D : Nat → Bool × TT) (B : Nat) (w : World) (b : Nat) (G : GL) (V : GV) (c : Nat) (hB : B ≤ w.heap.size) (hl : EOk B w l) (hG : GAt B w b l G V) (hI : GI l Z D G c) (hw : ∀ p, p < l.n → (l.f p).t.wid ≤ 10000) (hc : c + l.n * 10000 ≤ 1000000000) :
    Calls Try.prog 15 #[.pointer (some ⟨b, 0, none⟩)] w fun e w' => e = .returned (.tuple #[]) ∧ ∃ G' V', GAt B w' b l G' V' ∧ Mv V.own w V'.own w' ∧ GI l Z D G' (c + l.n * 10000) ∧ GExt G G' ∧ GDone l D G' := by
  have HG := Lib.hid hG
  have HL := Lib.hid hl
  have HW := Lib.hid hw
  have HI := Lib.hid hI
  have HBB := Lib.hid hB
  have hln := hl.n
  clear hG hl hw hI
  go_enter Try.func15, Try.ntmps15
  go_wp2_with fail
  go_loopw [2] (fun iv wr => RelS1 B l Z D b c G V w iv wr) (fun iv _ => l.n - (Lib.intOf iv).toNat)
  case atStart => exact ⟨0, G, V, Nat.zero_le _, rfl, HG.out, Mv.refl _ _, by simpa using HI.out, GExt.refl _, fun j p hj => by omega⟩
  case round =>
  obtain ⟨i, G', V', hi, rfl, hG', hM', hI', hE', hR'⟩ := hrel
  have hrl : G'.R.length ≤ l.n := nodup_len hI'.ok.rn (fun x hx => (hI'.ok.rr x hx).1)
  obtain ⟨rn, hrn⟩ : ∃ rn, G'.R.length = rn := ⟨_, rfl⟩
  have HGW := Lib.hid hG'
  have HMW := Lib.hid hM'
  have HIW := Lib.hid hI'
  have HEW := Lib.hid hE'
  have HRW := Lib.hid hR'
  rw [hrn] at hi hrl
  have HRN := Lib.hid hrn
  have c0 := hG'.bx.cell 0 (v := .slice l.a l.n l.cap) rfl
  have hbl : Below B w wr := GAtL.below HG.out hM' hB
  have HBL := Lib.hid hbl
  have hszw := hM'.size
  by_cases hlt : i < rn
  · obtain ⟨rg, rcap, hrv, hrB, hrlt, hix, hcell⟩ := own_read 37 3 Try.underlying37 (by kernel_rfl) Try.sizeOf3 hG'.r (i := i) (by rw [hrn]; exact hlt)
    rw [hrn] at hrv hix
    obtain ⟨p, hp⟩ : ∃ p, G'.R[i]? = some p := ⟨_, List.getElem?_eq_getElem (by omega)⟩
    have hpR : p ∈ G'.R := List.mem_of_getElem? hp
    have hpl : p < l.n := (hI'.ok.rr p hpR).1
    have c2 := hG'.bx.cell 2 (v := .slice (some ⟨rg, 0, none⟩) rn rcap) (by rw [← hrv]; rfl)
    have cr := hcell i _ (nv_at hp)
    obtain ⟨gx, ox, hix2, hgx, hrd⟩ := eRow_read HL.out.el hpl
    have hrw := hrd wr (hbl.block gx hgx)
    have htin : TIn B w (l.f p).t := (HL.out.el.2 p hpl).2.2
    have H1E := Lib.hid (one_ecells (HL.out.el.2 p hpl))
    obtain ⟨cs, hcs⟩ : ∃ cs, (l.f p).cells = cs := ⟨_, rfl⟩
    rw [hcs] at hrw H1E
    have q4 : decide ((i : Int) < (rn : Int)) = true := decide_eq_true (by omega)
    have q4n : decide (i < rn) = true := decide_eq_true hlt
    have hblt := hG'.bx.lt
    have hgxlt : gx < wr.heap.size := by omega
    have p0 := fun d os => cell_regrown c0 d os
    have p2 := fun d os => cell_regrown c2 d os
    have pr := fun d os => cell_regrown cr d os
    have HRG := Lib.hid (tq_range hrw)
    have HXN := Lib.hid (Bx.new wr.drew cs.toArray 46)
    have hx2 : cs[2]? = some (.bool (l.f p).auto) := by rw [← hcs]; rfl
    have hx3 : ∀ j v, (l.f p).t.cells[j]? = some v → cs[3 + j]? = some v := fun j v hv => by rw [← hcs]; unfold ET.cells; rw [List.getElem?_append_right (by simp)]; simpa using hv
    have H1T := Lib.hid (one_tcells htin)
    have HWD := Lib.hid (HW.out p hpl)
    have hdp := HIW.out.ok.de p hpl
    have HEN := Lib.hid (fun (W : World) (hb : Below B w W) (hg : GAt B W b l G' V') => enter_ok l Z D 10000 (l.f p).t (l.f p).auto B W b G' V' p (c + i * 10000) HWD.out (Nat.le_refl _) (htin.below hb (Nat.le_refl _)) (Nat.le_trans hB hb.size) (HL.out.below hb (Nat.le_refl _)) hg HIW.out (by have := HIW.out.ok.ln; omega) (.inl hpR) (fun x hx => by rw [hdp]; exact hx) (HIW.out.ok.rr p hpR).2 (by have := HWD.out; omega))
    obtain ⟨ea, hea⟩ : ∃ y, (l.f p).auto = y := ⟨_, rfl⟩
    rw [hea] at hx2 HEN
    have HX2 := Lib.hid hx2
    have HX3 := Lib.hid hx3
    clear hx2 hx3 hdp
    clear hrw hrd hcell hG' hM' hI' hE' hR' hbl
    go_wp2_with fail
    refine wp_region_new_tail 13 _ (.cells #[.string ⟨#[]⟩, .string ⟨#[]⟩, .bool false, .int .i64 0, .string ⟨#[]⟩, .int .i64 0, .int .i64 0, .int .i64 0, .bool false, .bool false, .slice none 0 0, .bool false, .string ⟨#[]⟩, .slice none 0 0, .slice none 0 0, .slice none 0 0, .slice none 0 0, .slice none 0 0] 46) (by kernel_rfl) (by kernel_rfl) (by kernel_rfl) rfl rfl (fun a w => by kernel_rfl) ?_
    simp only [List.take_succ_cons, List.take_zero, List.drop_succ_cons, List.drop_zero]
    iterate 12 go_big_quiet_step (fail)
    (go_big_quiet_want; refine tq_load_mid 46 (.tmp 28) rfl gx ox rfl cs _ HRG.out Try.underlying46 rfl (by rw [info_E, H1E.out.1]) ?_; simp only [tq_put, List.set_cons_succ, List.set_cons_zero]; go_big_quiet_on)
    refine wpQuiet_nil ?_
    simp only [tq_put, List.set_cons_succ, List.set_cons_zero]
    change wpList _ _ _ _ _ (World.alloc wr.drew _)
    have hmv3 := (Mv.drew V'.own wr).trans (Mv.alloc V'.own wr.drew (.cells cs.toArray 46) (fun k hk => (HGW.out.lo k hk).2))
    have HM3 := Lib.hid (HMW.out.trans hmv3)
    have HG3 := Lib.hid (show GAt B (wr.drew.alloc (.cells cs.toArray 46)) b l G' V' from GAtL.alloc (GAtL.drew HGW.out) _)
    have HB3 := Lib.hid (show Below B w (wr.drew.alloc (.cells cs.toArray 46)) from GAtL.below HG.out HM3.out hB)
    have hrl3 : rg < (wr.drew.alloc (.cells cs.toArray 46)).heap.size := by simp; omega
    have d2 := HG3.out.bx.cell 2 (v := .slice (some ⟨rg, 0, none⟩) rn rcap) (by rw [← hrv]; rfl)
    have dr : (wr.drew.alloc (.cells cs.toArray 46)).cell? ⟨rg, i, none⟩ = some (.int .i64 (p : Nat)) := (World.cell?_of_block (w := wr) (a := ⟨rg, i, none⟩) (Below.heap_alloc wr.drew _ rg hrlt)).trans cr
    have de : (wr.drew.alloc (.cells cs.toArray 46)).cell? ⟨wr.heap.size, 2, none⟩ = some (.bool ea) := HXN.out.cell 2 (v := .bool ea) (by simpa using HX2.out)
    have HRT := Lib.hid (show (wr.drew.alloc (.cells cs.toArray 46)).rangeAt wr.heap.size 3 (l.f p).t.cells from fun j v hv => HXN.out.cell (3 + j) (by simpa using HX3.out j v hv))
    have HSZ3 := Lib.hid (show wr.drew.heap.size = wr.heap.size from rfl)
    clear p0 p2 pr c0 c2 cr hmv3
    go_wp2_with (refine wpList_store_new rfl 46 (.tmp 3) (.tmp 29) rfl 18 _ cs H1E.out.1 (by kernel_rfl) info_E H1E.out.2 rfl rfl ?_)
    rw [show ∀ (a : Act) v, a.put none v = a from fun _ _ => rfl]
    clear HXN HRG
    obtain ⟨bx, hbx⟩ : ∃ bx, wr.heap.size = bx := ⟨_, rfl⟩
    rw [hbx] at de HRT ⊢
    have hp1 : (p : Int) = (p : Nat) := rfl
    generalize wr.drew.alloc (.cells cs.toArray 46) = W3 at *
    have HGD := Lib.hid (GAtL.drew HG3.out)
    have HEC := Lib.hid (HEN.out W3.drew (Below.drew HB3.out) HGD.out)
    have HMD := Lib.hid (HM3.out.trans (Mv.drew V'.own W3))
    clear HEN HG3 HM3
    refine wp_region_still_tail 12 (by kernel_rfl) (by kernel_rfl) ?_
    simp only [List.take_succ_cons, List.take_zero, List.drop_succ_cons, List.drop_zero]
    change wpStill _ _ W3.drew _ _ _
    iterate 11 still_step
    refine tq_still rfl 35 (.tmp 40) rfl bx 3 rfl (l.f p).t.cells _ HRT.out Try.underlying35 rfl (by rw [info_T, H1T.out.1]) ?_
    refine wpStill_nil ?_
    simp only [tq_put, List.set_cons_succ, List.set_cons_zero]
    go_wp2_with fail
    refine HEC.out.mono ?_
    rintro e w4 ⟨rfl, G4, V4, h4, h5, h6, h7, h8⟩
    have q5 : IntKind.i64.wrap ((i : Int) + 1) = ((i + 1 : Nat) : Int) := wrap_succ hlt (by omega)
    obtain ⟨r4, hr4⟩ := h7.R
    have HRN4 := Lib.hid (show i + 1 ≤ G4.R.length from by rw [hr4, List.length_append, HRN.out]; omega)
    have HREQ4 := Lib.hid (show ∀ j p', j < i + 1 → G4.R[j]? = some p' → Req l G4 p' (l.f p').auto (l.f p').t from fun j p' hj hp' => by
      have hjr : j < G'.R.length := by rw [HRN.out]; omega
      rw [hr4, List.getElem?_append_left hjr] at hp'
      rcases Nat.lt_or_ge j i with hh | hh
      · exact (HRW.out j p' hh hp').ext h7
      · obtain rfl : j = i := by omega
        rw [hp] at hp'
        cases hp'
        rw [hea]
        exact h8)
    have H4 := Lib.hid h4
    have HM4 := Lib.hid (HMD.out.trans h5)
    have HI4 := Lib.hid (h6.mono (show c + i * 10000 + (l.f p).t.wid ≤ c + (i + 1) * 10000 by have := HWD.out; omega))
    have HE4 := Lib.hid (HEW.out.trans h7)
    clear h4 h5 h6 h7 h8 hr4 hp HEC d2 dr de q4 q4n hix hix2 hrv
    go_wp2_with fail
    go_roundw
    case rel => exact ⟨i + 1, G4, V4, HRN4.out, rfl, H4.out, HM4.out, HI4.out, HE4.out, HREQ4.out⟩
    case measure => simp only [Lib.intOf]; omega
  · have q4 : decide ((i : Int) < (rn : Int)) = false := decide_eq_false (by omega)
    have q4n : decide (i < rn) = false := decide_eq_false hlt
    obtain ⟨ra, rcap, hrv⟩ := own_slice hG'.r
    rw [hrn] at hrv
    have c2 := hG'.bx.cell 2 (v := .slice ra rn rcap) (by rw [← hrv]; rfl)
    have HREQ := Lib.hid (show ∀ p, p ∈ G'.R → Req l G' p (l.f p).auto (l.f p).t from fun p hp => by
      obtain ⟨j, hj, he⟩ := List.getElem_of_mem hp
      exact HRW.out j p (by rw [HRN.out] at hj; omega) (by rw [List.getElem?_eq_getElem hj, he]))
    have HI1 := Lib.hid (HIW.out.mono (show c + i * 10000 ≤ c + l.n * 10000 by have : i * 10000 ≤ l.n * 10000 := Nat.mul_le_mul_right _ (by omega); omega))
    have HGH := Lib.hid (GHand.start HIW.out.wait)
    have hB2 : B ≤ wr.heap.size := Nat.le_trans hB hszw
    have HB2 := Lib.hid hB2
    have hm2 := HIW.out.m
    clear hG' hM' hI' hE' hR' hbl HIW HRW
    go_wp2_with fail
    rename World => w1
    go_loopw [4] (fun iv wx => RelS2 B l Z D b (c + l.n * 10000) G' V' w1 iv wx) (fun iv _ => 9 * G'.m - (Lib.intOf iv).toNat)
    case atStart => exact ⟨0, G', V', Nat.zero_le _, rfl, HGW.out, Mv.refl _ _, HI1.out, GExt.refl _, HREQ.out, HGH.out⟩
    case round =>
    clear c0 c2 q4 q4n
    obtain ⟨k, G2, V2, hk, rfl, hG2, hM2, hI2, hE2, hR2, hH2⟩ := hrel
    obtain ⟨qn, hqn⟩ : ∃ qn, G2.Q.length = qn := ⟨_, rfl⟩
    have hql : qn ≤ 9 * G'.m := by have h1 := hI2.left; rw [hE2.m] at h1; unfold GL.left at h1; omega
    have HG2 := Lib.hid hG2
    have HM2 := Lib.hid hM2
    have HI2 := Lib.hid hI2
    have HE2 := Lib.hid hE2
    have HR2 := Lib.hid hR2
    have HH2 := Lib.hid hH2
    have HQN := Lib.hid hqn
    rw [hqn] at hk
    by_cases hlt2 : k < qn
    · obtain ⟨qg, qcap, hqv, hqB, hqlt, hixq, hcq⟩ := own_read 37 3 Try.underlying37 (by kernel_rfl) Try.sizeOf3 hG2.q (i := k) (by rw [hqn]; exact hlt2)
      rw [hqn] at hqv hixq
      obtain ⟨n0, hn0⟩ : ∃ n0, G2.Q[k]? = some n0 := ⟨_, List.getElem?_eq_getElem (by omega)⟩
      have hn0Q : n0 ∈ G2.Q := List.mem_of_getElem? hn0
      have hn0m : n0 < G2.m := (hI2.ok.qq n0 hn0Q).1
      have c5 := hG2.bx.cell 5 (v := .slice (some ⟨qg, 0, none⟩) qn qcap) (by rw [← hqv]; rfl)
      have cq := hcq k _ (nv_at hn0)
      obtain ⟨vg, vcap, hvv, hvB, hvlt, hixv, hcv⟩ := own_read 58 37 Try.underlying58 (by kernel_rfl) Try.sizeOf37 hG2.v hn0m
      have c4 := hG2.bx.cell 4 (v := .slice (some ⟨vg, 0, none⟩) G2.m vcap) (by rw [← hvv]; rfl)
      have cv := hcv n0 _ (range_at hn0m)
      obtain ⟨ea, ecap, hev⟩ := own_slice (hG2.eds n0 hn0m).1
      obtain ⟨en, hen⟩ : ∃ en, (G2.E n0).length = en := ⟨_, rfl⟩
      rw [hen] at hev
      rw [hev] at cv
      have HEV := Lib.hid hev
      have HEN := Lib.hid hen
      have henl : en ≤ 1000000000 := by have h1 := hI2.el n0; omega
      have HT2 := Lib.hid (hH2.take hn0)
      have q6 : decide ((k : Int) < (qn : Int)) = true := decide_eq_true (by omega)
      have q6n : decide (k < qn) = true := decide_eq_true hlt2
      have q7 : IntKind.i64.wrap ((k : Int) + 1) = ((k + 1 : Nat) : Int) := wrap_succ hlt2 (by omega)
      clear hG2 hM2 hI2 hE2 hR2 hH2 hcq hcv hev hen hqn
      go_wp2_with fail
      rename World => w2
      go_loopw [67] (fun iv wx => RelS3 B l Z D b (c + l.n * 10000) k n0 G2 V2 w2 iv wx) (fun iv _ => en - (Lib.intOf iv).toNat)
      case atStart => exact ⟨0, G2, V2, Nat.zero_le _, rfl, HG2.out, Mv.refl _ _, HI2.out, GExt.refl _, rfl, rfl, rfl, by rw [HQN.out]; exact hlt2, HT2.out⟩
      case round =>
      clear c5 cq c4 cv
      obtain ⟨j, G3, V3, hj, rfl, hG3, hM3, hI3, hE3, hEE, hRR, hev3, hkQ, hH3⟩ := hrel
      rw [HEN.out] at hj
      have HG3 := Lib.hid hG3
      have HM3 := Lib.hid hM3
      have HI3 := Lib.hid hI3
      have HE3 := Lib.hid hE3
      have HEE := Lib.hid hEE
      have HRR := Lib.hid hRR
      have HEV3 := Lib.hid hev3
      have HH3 := Lib.hid hH3
      have hB3 : B ≤ wr.heap.size := Nat.le_trans HB2.out (Nat.le_trans HM2.out.size hM3.size)
      by_cases hlt3 : j < en
      · have hm3 : n0 < G3.m := by rw [hE3.m]; exact hn0m
        have hl3 : (G3.E n0).length = en := by rw [hEE]; exact HEN.out
        obtain ⟨eg, ecap', hev', heB, helt, hixe, hce⟩ := own_read 37 3 Try.underlying37 (by kernel_rfl) Try.sizeOf3 (hG3.eds n0 hm3).1 (i := j) (by rw [hl3]; exact hlt3)
        rw [hl3, hev3, HEV.out] at hev'
        cases hev'
        rw [hl3] at hixe
        obtain ⟨nt, hto⟩ : ∃ nt, (G3.E n0)[j]? = some nt := ⟨_, List.getElem?_eq_getElem (by omega)⟩
        have hed := hI3.ok.ed n0 hm3 nt (List.mem_of_getElem? hto)
        have hn0l : n0 < l.n := (hI3.ok.rr n0 hed.2.1).1
        have ce := hce j _ (nv_at hto)
        obtain ⟨sg, scap, hsv, hsB, hslt, hixs, hcs⟩ := own_read 57 52 Try.underlying57 (by kernel_rfl) Try.sizeOf52 hG3.s hm3
        have c3 := hG3.bx.cell 3 (v := .slice (some ⟨sg, 0, none⟩) G3.m scap) (by rw [← hsv]; rfl)
        have cs := hcs n0 _ (range_at hm3)
        obtain ⟨k0, hk0, ho0, hs0⟩ := (hG3.sets n0 hm3).1 (.inl hed.2.1)
        rw [hk0] at cs
        have HGV := Lib.hid (give_ok2 B wr b l G3 V3 nt (some k0) (G3.S n0) hG3 hB3 hed.1 hed.2.2.1 (.inr ⟨k0, rfl, hs0⟩) hI3.q)
        have HI4 := Lib.hid (hI3.give (n := nt) (T := G3.S n0) hed.1 hed.2.2.1 (fun x hx hs => hed.2.2.2 x (by have h1 := hI3.ok.sn n0 hm3 x hx hs; rw [hI3.ok.de n0 hn0l] at h1; exact h1)))
        have HE4 := Lib.hid (hE3.trans (G3.give_ext nt (G3.S n0)))
        have HH4 := Lib.hid (hH3.step hkQ hto)
        have HQ4 := Lib.hid (show k < (G3.give nt (G3.S n0)).Q.length from by
          rcases G3.give_or nt (G3.S n0) with h1 | ⟨h1, _⟩
          · rw [h1, List.length_append]; omega
          · rw [h1]; exact hkQ)
        have q8 : decide ((j : Int) < (en : Int)) = true := decide_eq_true (by omega)
        have q8n : decide (j < en) = true := decide_eq_true hlt3
        have q9 : IntKind.i64.wrap ((j : Int) + 1) = ((j + 1 : Nat) : Int) := wrap_succ hlt3 (by omega)
        clear hG3 hM3 hI3 hE3 hEE hRR hev3 hH3 hce hcs hto hk0 hs0 hed hkQ
        go_wp2_with fail
        refine HGV.out.mono ?_
        rintro e w4 ⟨rfl, V4, h4, h5, h6⟩
        have H4 := Lib.hid h4
        have HM4 := Lib.hid (HM3.out.trans h5)
        have HV4 := Lib.hid (h6.1.trans HEV3.out)
        clear h4 h5 h6 c3 cs ce HGV
        go_wp2_with fail
        go_roundw
        case rel => exact ⟨j + 1, G3.give nt (G3.S n0), V4, by rw [HEN.out]; exact hlt3, rfl, H4.out, HM4.out, HI4.out, HE4.out, HEE.out, HRR.out, HV4.out, HQ4.out, HH4.out⟩
        case measure => simp only [Lib.intOf]; omega
      · have q8 : decide ((j : Int) < (en : Int)) = false := decide_eq_false (by omega)
        have q8n : decide (j < en) = false := decide_eq_false hlt3
        have HH4 := Lib.hid (show GHand G3 (k + 1) from by
          have e1 : (G3.E n0).length = j := by rw [hEE]; have := HEN.out; omega
          rw [← e1] at hH3
          exact hH3.stop)
        have HR3 := Lib.hid (show ∀ p, p ∈ G3.R → Req l G3 p (l.f p).auto (l.f p).t from fun p hp => (HR2.out p (by rw [← hRR]; exact hp)).ext hE3)
        have HQ3 := Lib.hid hkQ
        have HM4 := Lib.hid (HM2.out.trans hM3)
        have HE4 := Lib.hid (HE2.out.trans hE3)
        clear hG3 hM3 hI3 hE3 hEE hRR hev3 hH3 hkQ
        go_wp2_with fail
        go_roundw
        case rel => exact ⟨k + 1, G3, V3, HQ3.out, rfl, HG3.out, HM4.out, HI3.out, HE4.out, HR3.out, HH4.out⟩
        case measure => simp only [Lib.intOf]; omega
    · have q6 : decide ((k : Int) < (qn : Int)) = false := decide_eq_false (by omega)
      have q6n : decide (k < qn) = false := decide_eq_false hlt2
      obtain ⟨qa, qcap, hqv⟩ := own_slice hG2.q
      rw [hqn] at hqv
      have c5 := hG2.bx.cell 5 (v := .slice qa qn qcap) (by rw [← hqv]; rfl)
      have HDN := Lib.hid (show GDone l D G2 from GHand.done (by rw [hqn, ← (show k = qn by omega)]; exact hH2) hR2)
      clear hG2 hM2 hI2 hE2 hR2 hH2 hqn
      go_wp2_with fail
      go_end0
      exact ⟨rfl, G2, V2, HG2.out, HMW.out.trans HM2.out, HI2.out, HEW.out.trans HE2.out, HDN.out⟩
end Go.Proofs.Ytecedbjkebdeaaa
