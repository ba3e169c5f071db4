/-
  Whether a type, or one nested in it, lets nothing in: 'hasEmpty', 'Check'.
-/
import Derived.Test.YtfnpjdglfaaegaaBdT1
import Derived.Test.YtfnpjdglfaaegaaBdT2
namespace Go.Proofs.Ytfnpjdglfaaegaa
open Go.RowKit Go.Shelf
set_option linter.unusedVariables false
set_option linter.unusedSimpArgs false
set_option maxRecDepth 100000

open Classical in
noncomputable def noneB (p : Int → Prop) : Bool := decide (∀ x, I64 x → ¬ p x)
theorem noneB_len {r : List Rg} {p : Int → Prop} (h : Says r p) : decide (r.length = 0) = noneB p := by
  classical
  unfold noneB
  rw [Bool.eq_iff_iff, decide_eq_true_iff, decide_eq_true_iff]
  constructor
  · intro h0 x hx hp
    obtain rfl : r = [] := List.length_eq_zero_iff.1 h0
    exact mem_nil ((h.2.2 x hx).2 hp)
  · intro hn
    rcases Nat.eq_zero_or_pos r.length with h0 | h0
    · exact h0
    · have hm : mem r r[0]!.1 := ⟨r[0]!, by rw [getElem!_pos r 0 h0]; exact List.getElem_mem h0, Int.le_refl _, h.1.2 _ (by rw [getElem!_pos r 0 h0]; exact List.getElem_mem h0)⟩
      have hi := h.2.1.mem hm
      exact absurd ((h.2.2 _ hi).1 hm) (hn _ hi)
noncomputable def ofE (t : TT) : Bool := ofB t && noneB (ofP t)
noncomputable def emp : TT → Nat → Bool
  | .nil, _ => false
  | .mk kind name con ext fr nm mo pa pt ad at_ ea en ecap et, k =>
    match k with
    | 0 => false
    | k + 1 => ofE (.mk kind name con ext fr nm mo pa pt ad at_ ea en ecap et) || (anyN (fun i => emp (pt i) k) pa.n || (anyN (fun i => emp (at_ i) k) ad.n || anyN (fun i => emp (et i) k) en))
theorem emp_zero (t : TT) : emp t 0 = false := by cases t <;> simp [emp]
def TT.small : TT → Prop
  | .nil => True
  | .mk _ _ con _ _ _ _ pa pt ad at_ _ en _ et => con.sz ≤ 100 ∧ (∀ i, i < pa.n → (pt i).small) ∧ (∀ i, i < ad.n → (at_ i).small) ∧ ∀ i, i < en → (et i).small
def HEOK (t : TT) (k : Nat) : Prop := ∀ (B : Nat) (w : World), TIn B w t → B ≤ w.heap.size →
  Calls Try.prog 37 #[.agg t.cells.toArray, .int .i64 (k : Nat)] w fun e w' => e = .returned (.bool (emp t k)) ∧ Below w.heap.size w w'
theorem enters_he1 : Enters Try.prog 52 := enters_of Try.func52 (by kernel_rfl) rfl
theorem enters_he2 : Enters Try.prog 55 := enters_of Try.func55 (by kernel_rfl) rfl
set_option maxHeartbeats 4000000 in
theorem he1_ok (p : PD) (t : TT) (j : Nat) (h : HEOK t j) (gp B : Nat) (w : World) (ht : TIn B w t) (hB : B ≤ w.heap.size) (hc : w.cell? ⟨gp, 0, none⟩ = some (.int .i64 ((j + 1 : Nat) : Int))) (hj : j ≤ 100) :
    Calls Try.prog 52 #[.agg (pcells p t).toArray, .pointer (some ⟨gp, 0, none⟩)] w fun e w' => e = .returned (.bool (emp t j)) ∧ Below w.heap.size w w' := by
  have H1 := Lib.hid (one_tcells ht)
  have HX := Lib.hid (Bx.new w (pcells p t).toArray 67)
  have HB0 := Lib.hid ((Below.refl w.heap.size w).alloc (Nat.le_refl _) (.cells (pcells p t).toArray 67))
  have HC := Lib.hid (h w.heap.size _ ((ht.below (Below.refl _ _) hB).below HB0.out (Nat.le_refl _)) HB0.out.size)
  have hg := World.block_lt_of_cell? w _ hc
  have c0 := HB0.out.cell (p := ⟨gp, 0, none⟩) hg |>.trans hc
  obtain ⟨d, hd⟩ : ∃ d : Nat, j + 1 = d := ⟨_, rfl⟩
  rw [hd] at c0
  have QS := Lib.hid (show IntKind.i64.wrap ((d : Int) - 1) = (j : Int) from (wrap_ok (by unfold I64; omega)).trans (by omega))
  obtain ⟨b, hb⟩ : ∃ b, emp t j = b := ⟨_, rfl⟩
  rw [hb] at HC ⊢
  clear h ht hB hc hd hb hg hj
  have qs := QS.out
  go_enter Try.func52, Try.ntmps52
  go_wp2_with (refine wpList_load_mid rfl 35 (.tmp 4) rfl w.heap.size 1 rfl t.cells _ HX.out.rangeP Try.underlying35 rfl (by rw [info_T, H1.out.1]) ?_)
  refine HC.out.mono ?_
  rintro e w1 ⟨rfl, hb⟩
  have HB1 := Lib.hid (HB0.out.trans (hb.mono HB0.out.size))
  clear hb
  go_wp2_with fail
  go_ret
  exact ⟨rfl, HB1.out⟩
set_option maxHeartbeats 4000000 in
theorem he2_ok (t : TT) (j : Nat) (h : HEOK t j) (gp B : Nat) (w : World) (ht : TIn B w t) (hB : B ≤ w.heap.size) (hc : w.cell? ⟨gp, 0, none⟩ = some (.int .i64 ((j + 1 : Nat) : Int))) (hj : j ≤ 100) :
    Calls Try.prog 55 #[.agg t.cells.toArray, .pointer (some ⟨gp, 0, none⟩)] w fun e w' => e = .returned (.bool (emp t j)) ∧ Below w.heap.size w w' := by
  have H1 := Lib.hid (one_tcells ht)
  have HX := Lib.hid (Bx.new w t.cells.toArray 35)
  have HB0 := Lib.hid ((Below.refl w.heap.size w).alloc (Nat.le_refl _) (.cells t.cells.toArray 35))
  have HC := Lib.hid (h w.heap.size _ ((ht.below (Below.refl _ _) hB).below HB0.out (Nat.le_refl _)) HB0.out.size)
  have hg := World.block_lt_of_cell? w _ hc
  have c0 := HB0.out.cell (p := ⟨gp, 0, none⟩) hg |>.trans hc
  obtain ⟨d, hd⟩ : ∃ d : Nat, j + 1 = d := ⟨_, rfl⟩
  rw [hd] at c0
  have QS := Lib.hid (show IntKind.i64.wrap ((d : Int) - 1) = (j : Int) from (wrap_ok (by unfold I64; omega)).trans (by omega))
  obtain ⟨b, hb⟩ : ∃ b, emp t j = b := ⟨_, rfl⟩
  rw [hb] at HC ⊢
  clear h ht hB hc hd hb hg hj
  have qs := QS.out
  go_enter Try.func55, Try.ntmps55
  go_wp2_with (refine wpList_load_mid rfl 35 (.tmp 2) rfl w.heap.size 0 rfl t.cells _ HX.out.range Try.underlying35 rfl (by rw [info_T, H1.out.1]) ?_)
  refine HC.out.mono ?_
  rintro e w1 ⟨rfl, hb⟩
  have HB1 := Lib.hid (HB0.out.trans (hb.mono HB0.out.size))
  clear hb
  go_wp2_with fail
  go_ret
  exact ⟨rfl, HB1.out⟩
/-- a type and a number that are boxed -/
theorem boxed_ti (cs : List Value) (k : Int) (w : World) : ∃ W, (w.alloc (.cells cs.toArray 35)).alloc (.cells #[.int .i64 k] 3) = W ∧
    Bx W w.heap.size cs.toArray 35 ∧ Bx W (w.heap.size + 1) #[.int .i64 k] 3 ∧ Below w.heap.size w W := by
  have e : (w.alloc (.cells cs.toArray 35)).heap.size = w.heap.size + 1 := by simp
  have h2 := Bx.new (w.alloc (.cells cs.toArray 35)) #[.int .i64 k] 3
  rw [e] at h2
  exact ⟨_, rfl, (Bx.new w cs.toArray 35).alloc _, h2, ((Below.refl _ w).alloc (Nat.le_refl _) _).alloc (by simp) _⟩
set_option maxHeartbeats 16000000 in
theorem hasEmpty_ok : ∀ (t : TT) (k : Nat), k ≤ 40 → t.small → HEOK t k
  | .nil, k, _, _ => fun B w h _ => h.elim
  | .mk kind name con ext fr nm mo pa pt ad at_ ea en ecap et, k, hk, hsm => fun B w hin hB => by
    obtain ⟨s0, s1, s2, s3⟩ := hsm
    have HIN := Lib.hid hin
    have H1 := Lib.hid (one_tcells hin)
    obtain ⟨W, hW, hx, hxk, hb0⟩ := boxed_ti (TT.mk kind name con ext fr nm mo pa pt ad at_ ea en ecap et).cells (k : Nat) w
    have HW := Lib.hid hW
    have HX := Lib.hid hx
    have HXK := Lib.hid hxk
    have HB := Lib.hid hb0
    obtain ⟨t, ht⟩ : ∃ t, TT.mk kind name con ext fr nm mo pa pt ad at_ ea en ecap et = t := ⟨_, rfl⟩
    have HT := Lib.hid ht
    have hcells : t.cells[12]? = some (.slice pa.a pa.n pa.cap) ∧ t.cells[13]? = some (.slice ad.a ad.n ad.cap) ∧ t.cells[14]? = some (.slice ea en ecap) := by
      rw [← ht]
      obtain ⟨kd', tn', op', lo', hi', lw', hg', ca', cn', cc', cch', ext', fr', sa', sn', sc', sf', ma', mn', mc', mf', pa', pn', pc', pf', ptf', aa', an', ac', af', atf', ea', en', ec', etf', he⟩ := hin.open
      cases con with
      | nil => exact hin.1.2.2.1.elim
      | mk => exact ⟨rfl, rfl, rfl⟩
    have hof := Of_ok t w.heap.size W (by rw [← ht]; exact (hin.below (Below.refl _ _) hB).below hb0 (Nat.le_refl _)) hb0.size (by rw [← ht]; show 2 * con.sz ≤ 200; omega)
    have HOF := Lib.hid hof
    have HCL := Lib.hid hcells
    have hemp : ∀ j, k = j + 1 → emp t k = (ofE t || (anyN (fun i => emp (pt i) j) pa.n || (anyN (fun i => emp (at_ i) j) ad.n || anyN (fun i => emp (et i) j) en))) := fun j hj => by
      subst hj
      rw [← ht]
      rfl
    have HEMP := Lib.hid hemp
    have HP := Lib.hid (show ∀ j, k = j + 1 → ∀ w1, Below w.heap.size w w1 → Bx w1 (w.heap.size + 1) #[.int .i64 (k : Nat)] 3 → PredN w1 52 #[] #[.pointer (some ⟨w.heap.size + 1, 0, none⟩)] pa.n (fun i => .agg (pcells (pa.f i) (pt i)).toArray) (fun i => emp (pt i) j) from fun j hj w1 hb hxk i hi w2 hb2 => by
      have hx2 := (hxk.below hb2 hxk.lt).cell 0 rfl
      rw [hj] at hx2
      exact he1_ok (pa.f i) (pt i) j (hasEmpty_ok (pt i) j (by omega) (s1 i hi)) _ w.heap.size w2 ((((hin.2.1.2 i hi).2.below (Below.refl _ _) hB).below hb (Nat.le_refl _)).below (hb2.mono hb.size) (Nat.le_refl _)) (Nat.le_trans hb.size hb2.size) hx2 (by omega))
    have HA := Lib.hid (show ∀ j, k = j + 1 → ∀ w1, Below w.heap.size w w1 → Bx w1 (w.heap.size + 1) #[.int .i64 (k : Nat)] 3 → PredN w1 52 #[] #[.pointer (some ⟨w.heap.size + 1, 0, none⟩)] ad.n (fun i => .agg (pcells (ad.f i) (at_ i)).toArray) (fun i => emp (at_ i) j) from fun j hj w1 hb hxk i hi w2 hb2 => by
      have hx2 := (hxk.below hb2 hxk.lt).cell 0 rfl
      rw [hj] at hx2
      exact he1_ok (ad.f i) (at_ i) j (hasEmpty_ok (at_ i) j (by omega) (s2 i hi)) _ w.heap.size w2 ((((hin.2.2.1.2 i hi).2.below (Below.refl _ _) hB).below hb (Nat.le_refl _)).below (hb2.mono hb.size) (Nat.le_refl _)) (Nat.le_trans hb.size hb2.size) hx2 (by omega))
    have HE := Lib.hid (show ∀ j, k = j + 1 → ∀ w1, Below w.heap.size w w1 → Bx w1 (w.heap.size + 1) #[.int .i64 (k : Nat)] 3 → PredN w1 55 #[] #[.pointer (some ⟨w.heap.size + 1, 0, none⟩)] en (fun i => .agg (et i).cells.toArray) (fun i => emp (et i) j) from fun j hj w1 hb hxk i hi w2 hb2 => by
      have hx2 := (hxk.below hb2 hxk.lt).cell 0 rfl
      rw [hj] at hx2
      exact he2_ok (et i) j (hasEmpty_ok (et i) j (by omega) (s3 i hi)) _ w.heap.size w2 ((((hin.2.2.2.2 i hi).below (Below.refl _ _) hB).below hb (Nat.le_refl _)).below (hb2.mono hb.size) (Nat.le_refl _)) (Nat.le_trans hb.size hb2.size) hx2 (by omega))
    have HRP := Lib.hid (show ∀ w1, Below w.heap.size w w1 → RowAt w.heap.size w1 pa.a pa.n pa.cap 18 (fun i => pcells (pa.f i) (pt i)) ∧ (∀ i, i < pa.n → TIn w.heap.size w1 (pt i)) ∧ RowAt w.heap.size w1 ad.a ad.n ad.cap 18 (fun i => pcells (ad.f i) (at_ i)) ∧ (∀ i, i < ad.n → TIn w.heap.size w1 (at_ i)) ∧ RowAt w.heap.size w1 ea en ecap 15 (fun i => (et i).cells) ∧ (∀ i, i < en → TIn w.heap.size w1 (et i)) from fun w1 hb => by
      have h2 := (hin.below (Below.refl _ _) hB).below hb (Nat.le_refl _)
      exact ⟨h2.2.1.1, fun i hi => (h2.2.1.2 i hi).2, h2.2.2.1.1, fun i hi => (h2.2.2.1.2 i hi).2, h2.2.2.2.1, h2.2.2.2.2⟩)
    rw [ht] at HX H1 HW HIN ⊢
    have k3 := HXK.out.cell 0 rfl
    obtain ⟨b2, hb2⟩ : ∃ b2, w.heap.size + 1 = b2 := ⟨_, rfl⟩
    have HB2 := Lib.hid hb2
    rw [hb2] at HXK HP HA HE k3
    clear ht hin hB hW hx hxk hb0 hcells hof hemp s0 s1 s2 s3 hb2
    rcases Nat.eq_zero_or_pos k with hk0 | hk0
    · have z0 : ((k : Int) == 0) = true := by rw [hk0]; rfl
      have z0n : (k == 0) = true := by rw [hk0]; rfl
      rw [show emp t k = false from by rw [hk0]; exact emp_zero t]
      clear hk0 hk
      go_enter Try.func37, Try.ntmps37
      go_upto_region 1 with fail
      change Code.wp _ _ _ _ ((w.alloc _).alloc _)
      rw [HW.out, HB2.out]
      go_wp2_with fail
      go_ret
      exact ⟨rfl, HB.out⟩
    obtain ⟨j, hj⟩ : ∃ j, k = j + 1 := ⟨k - 1, by omega⟩
    have HJ := Lib.hid hj
    have z0 : ((k : Int) == 0) = false := beq_false_of_ne (by omega)
    have z0n : (k == 0) = false := beq_false_of_ne (by omega)
    rw [HEMP.out j hj]
    obtain ⟨bp, hbp⟩ : ∃ b, anyN (fun i => emp (pt i) j) pa.n = b := ⟨_, rfl⟩
    obtain ⟨ba, hba⟩ : ∃ b, anyN (fun i => emp (at_ i) j) ad.n = b := ⟨_, rfl⟩
    obtain ⟨be, hbe⟩ : ∃ b, anyN (fun i => emp (et i) j) en = b := ⟨_, rfl⟩
    obtain ⟨bo, hbo⟩ : ∃ b, ofE t = b := ⟨_, rfl⟩
    have HBO := Lib.hid hbo
    rw [hbp, hba, hbe, hbo]
    have HCP := Lib.hid (fun (w1 : World) (hb : Below w.heap.size w w1) (hx : Bx w1 b2 #[.int .i64 (k : Nat)] 3) => hbp ▸ contP_ok w.heap.size w1 pa.a pa.n pa.cap pa.f pt 52 #[] #[.pointer (some ⟨b2, 0, none⟩)] (fun i => emp (pt i) j) enters_he1 hb.size (HRP.out w1 hb).1 (HRP.out w1 hb).2.1 (HP.out j hj w1 hb hx))
    have HCA := Lib.hid (fun (w1 : World) (hb : Below w.heap.size w w1) (hx : Bx w1 b2 #[.int .i64 (k : Nat)] 3) => hba ▸ contP_ok w.heap.size w1 ad.a ad.n ad.cap ad.f at_ 52 #[] #[.pointer (some ⟨b2, 0, none⟩)] (fun i => emp (at_ i) j) enters_he1 hb.size (HRP.out w1 hb).2.2.1 (HRP.out w1 hb).2.2.2.1 (HA.out j hj w1 hb hx))
    have HCE := Lib.hid (fun (w1 : World) (hb : Below w.heap.size w w1) (hx : Bx w1 b2 #[.int .i64 (k : Nat)] 3) => hbe ▸ contT_ok w.heap.size w1 ea en ecap et 55 #[] #[.pointer (some ⟨b2, 0, none⟩)] (fun i => emp (et i) j) enters_he2 hb.size (HRP.out w1 hb).2.2.2.2.1 (HRP.out w1 hb).2.2.2.2.2 (HE.out j hj w1 hb hx))
    clear hbp hba hbe hbo hj hk hk0 HRP HP HA HE HEMP
    go_enter Try.func37, Try.ntmps37
    go_upto_region 1 with fail
    change Code.wp _ _ _ _ ((w.alloc _).alloc _)
    rw [HW.out, HB2.out]
    go_wp2_with (refine wpList_load_mid rfl 35 (.tmp 2) rfl w.heap.size 0 rfl t.cells _ HX.out.range Try.underlying35 rfl (by rw [info_T, H1.out.1]) ?_)
    refine HOF.out.mono ?_
    rintro e w1 ⟨v, r, rfl, h1, h2⟩
    have HB1 := Lib.hid (HB.out.trans (h2.mono HB.out.size))
    have HX1 := Lib.hid (HX.out.below h2 HX.out.lt)
    have HXK1 := Lib.hid (HXK.out.below h2 HXK.out.lt)
    obtain ⟨sv, cv, rfl⟩ := h1.1.shape
    have hbo2 := HBO.out
    unfold ofE at hbo2
    rw [← noneB_len h1.2.1] at hbo2
    obtain ⟨nr, hnr⟩ : ∃ nr, r.length = nr := ⟨_, rfl⟩
    rw [hnr] at hbo2 ⊢
    have HBO2 := Lib.hid hbo2
    obtain ⟨ob, hob⟩ : ∃ ob, ofB t = ob := ⟨_, rfl⟩
    rw [hob] at HBO2 ⊢
    clear h1 h2 hbo2 hnr hob k3 HOF HX HXK HB
    have cc := HCL.out
    have c12 := HX1.out.cell 12 (v := .slice pa.a pa.n pa.cap) (by simpa using cc.1)
    have c13 := HX1.out.cell 13 (v := .slice ad.a ad.n ad.cap) (by simpa using cc.2.1)
    have c14 := HX1.out.cell 14 (v := .slice ea en ecap) (by simpa using cc.2.2)
    clear cc
    cases ob with
    | true =>
      rcases Nat.eq_zero_or_pos nr with hz | hz
      · subst hz
        obtain rfl : bo = true := HBO2.out.symm.trans rfl
        go_wp2_with fail
        go_ret
        exact ⟨rfl, HB1.out⟩
      · have e0 : ((nr : Int) == 0) = false := beq_false_of_ne (by omega)
        have e0n : (nr == 0) = false := beq_false_of_ne (by omega)
        obtain rfl : bo = false := HBO2.out.symm.trans (by rw [Bool.true_and]; exact decide_eq_false (by omega))
        simp only [Bool.false_or]
        go_wp2_with fail
        refine (HCP.out _ HB1.out HXK1.out).mono ?_
        rintro e w2 ⟨rfl, h2⟩
        have HB2' := Lib.hid (HB1.out.trans (h2.mono HB1.out.size))
        have HX2 := Lib.hid (HX1.out.below h2 HX1.out.lt)
        have HXK2 := Lib.hid (HXK1.out.below h2 HXK1.out.lt)
        clear h2 c12 c13 c14
        cases bp with
        | true =>
          go_wp2_with fail
          go_ret
          exact ⟨rfl, HB2'.out⟩
        | false =>
          simp only [Bool.false_or]
          have cc := HCL.out
          have c13 := HX2.out.cell 13 (v := .slice ad.a ad.n ad.cap) (by simpa using cc.2.1)
          clear cc
          go_wp2_with fail
          refine (HCA.out _ HB2'.out HXK2.out).mono ?_
          rintro e w3 ⟨rfl, h2⟩
          have HB3 := Lib.hid (HB2'.out.trans (h2.mono HB2'.out.size))
          have HX3 := Lib.hid (HX2.out.below h2 HX2.out.lt)
          have HXK3 := Lib.hid (HXK2.out.below h2 HXK2.out.lt)
          clear h2 c13
          cases ba with
          | true =>
            go_wp2_with fail
            go_ret
            exact ⟨rfl, HB3.out⟩
          | false =>
            simp only [Bool.false_or]
            have cc := HCL.out
            have c14 := HX3.out.cell 14 (v := .slice ea en ecap) (by simpa using cc.2.2)
            clear cc
            go_wp2_with fail
            refine (HCE.out _ HB3.out HXK3.out).mono ?_
            rintro e w4 ⟨rfl, h2⟩
            have HB4 := Lib.hid (HB3.out.trans (h2.mono HB3.out.size))
            clear h2 c14
            go_wp2_with fail
            go_ret
            exact ⟨rfl, HB4.out⟩
    | false =>
      obtain rfl : bo = false := HBO2.out.symm.trans rfl
      simp only [Bool.false_or]
      go_wp2_with fail
      refine (HCP.out _ HB1.out HXK1.out).mono ?_
      rintro e w2 ⟨rfl, h2⟩
      have HB2' := Lib.hid (HB1.out.trans (h2.mono HB1.out.size))
      have HX2 := Lib.hid (HX1.out.below h2 HX1.out.lt)
      have HXK2 := Lib.hid (HXK1.out.below h2 HXK1.out.lt)
      clear h2 c12 c13 c14
      cases bp with
      | true =>
        go_wp2_with fail
        go_ret
        exact ⟨rfl, HB2'.out⟩
      | false =>
        simp only [Bool.false_or]
        have cc := HCL.out
        have c13 := HX2.out.cell 13 (v := .slice ad.a ad.n ad.cap) (by simpa using cc.2.1)
        clear cc
        go_wp2_with fail
        refine (HCA.out _ HB2'.out HXK2.out).mono ?_
        rintro e w3 ⟨rfl, h2⟩
        have HB3 := Lib.hid (HB2'.out.trans (h2.mono HB2'.out.size))
        have HX3 := Lib.hid (HX2.out.below h2 HX2.out.lt)
        have HXK3 := Lib.hid (HXK2.out.below h2 HXK2.out.lt)
        clear h2 c13
        cases ba with
        | true =>
          go_wp2_with fail
          go_ret
          exact ⟨rfl, HB3.out⟩
        | false =>
          simp only [Bool.false_or]
          have cc := HCL.out
          have c14 := HX3.out.cell 14 (v := .slice ea en ecap) (by simpa using cc.2.2)
          clear cc
          go_wp2_with fail
          refine (HCE.out _ HB3.out HXK3.out).mono ?_
          rintro e w4 ⟨rfl, h2⟩
          have HB4 := Lib.hid (HB3.out.trans (h2.mono HB3.out.size))
          clear h2 c14
          go_wp2_with fail
          go_ret
          exact ⟨rfl, HB4.out⟩
set_option maxHeartbeats 4000000 in
theorem Check_ok (t : TT) (B : Nat) (w : World) (ht : TIn B w t) (hB : B ≤ w.heap.size) (hsm : t.small) :
    Calls Try.prog 18 #[.agg t.cells.toArray] w fun e w' => e = .returned (.int .i64 (if emp t 40 then 10 else 0)) ∧ Below w.heap.size w w' := by
  have H1 := Lib.hid (one_tcells ht)
  have HX := Lib.hid (Bx.new w t.cells.toArray 35)
  have HB0 := Lib.hid ((Below.refl w.heap.size w).alloc (Nat.le_refl _) (.cells t.cells.toArray 35))
  have hc := hasEmpty_ok t 40 (Nat.le_refl _) hsm w.heap.size _ ((ht.below (Below.refl _ _) hB).below HB0.out (Nat.le_refl _)) HB0.out.size
  rw [show ((40 : Nat) : Int) = 40 from rfl] at hc
  have HC := Lib.hid hc
  obtain ⟨b, hb⟩ : ∃ b, emp t 40 = b := ⟨_, rfl⟩
  rw [hb] at HC ⊢
  clear ht hB hsm hc hb
  cases b with
  | true =>
    go_enter Try.func18, Try.ntmps18
    go_wp2_with (refine wpList_load_mid rfl 35 (.tmp 1) rfl w.heap.size 0 rfl t.cells _ HX.out.range Try.underlying35 rfl (by rw [info_T, H1.out.1]) ?_)
    refine HC.out.mono ?_
    rintro e w1 ⟨rfl, hb⟩
    have HB1 := Lib.hid (HB0.out.trans (hb.mono HB0.out.size))
    clear hb
    go_wp2_with fail
    go_ret
    exact ⟨rfl, HB1.out⟩
  | false =>
    go_enter Try.func18, Try.ntmps18
    go_wp2_with (refine wpList_load_mid rfl 35 (.tmp 1) rfl w.heap.size 0 rfl t.cells _ HX.out.range Try.underlying35 rfl (by rw [info_T, H1.out.1]) ?_)
    refine HC.out.mono ?_
    rintro e w1 ⟨rfl, hb⟩
    have HB1 := Lib.hid (HB0.out.trans (hb.mono HB0.out.size))
    clear hb
    go_wp2_with fail
    go_ret
    exact ⟨rfl, HB1.out⟩
end Go.Proofs.Ytfnpjdglfaaegaa
