/-
  Package tags: 'join'.
-/
import Derived.Test.YtecedbjkebdeaaaTgY2
namespace Go.Proofs.Ytecedbjkebdeaaa
open Go.RowKit Go.Maps Go.WideElems Go.ChangeMaps Go.MapKept Go.Shelf
set_option linter.unusedVariables false
set_option linter.unusedSimpArgs false
set_option maxRecDepth 100000

/-- how many types stand in a type, itself among them -/
def TT.sz : TT → Nat
  | .nil => 1
  | .mk _ _ _ _ _ _ _ pa pt ad at_ _ en _ et => 1 + (sumW (fun i => (pt i).sz) pa.n + sumW (fun i => (at_ i).sz) ad.n + sumW (fun i => (et i).sz) en)
theorem TT.sz_pos : ∀ t : TT, 1 ≤ t.sz
  | .nil => Nat.le_refl _
  | .mk .. => by unfold TT.sz; omega
theorem TT.sz_eq (t : TT) : t.sz = 1 + (sumW (fun i => (t.alt i).sz) t.nal + sumW (fun i => (t.et i).sz) t.en) := by
  cases t with
  | nil => rfl
  | mk kd tn con ext fr nm mo pa pt ad at_ ea en ec et =>
    show 1 + (sumW (fun i => (pt i).sz) pa.n + sumW (fun i => (at_ i).sz) ad.n + sumW (fun i => (et i).sz) en) = 1 + (sumW (fun i => (if i < pa.n then pt i else at_ (i - pa.n)).sz) (pa.n + ad.n) + sumW (fun i => (et i).sz) en)
    rw [← sumW_add]
    congr 3
    funext i
    split <;> rfl
theorem TT.alt_sz {t : TT} {i : Nat} (hi : i < t.nal) : (t.alt i).sz < t.sz := by
  rw [t.sz_eq]
  have := sumW_one (f := fun i => (t.alt i).sz) hi
  omega
theorem TT.et_sz {t : TT} {i : Nat} (hi : i < t.en) : (t.et i).sz < t.sz := by
  rw [t.sz_eq]
  have := sumW_one (f := fun i => (t.et i).sz) hi
  omega
theorem TT.nal_sz (t : TT) : t.nal ≤ t.sz := by
  rw [t.sz_eq]
  have := sumW_ge (f := fun i => (t.alt i).sz) (n := t.nal) (fun i _ => (t.alt i).sz_pos)
  omega
theorem TagsAt.len {w : World} {p : Option Nat} {T : TS} (h : TagsAt w p T) : ∀ ty, (Builtin.len_ #[52] ty #[.map p]).run Try.prog w = .ok (.int .i64 (T.l.length : Int)) w := fun ty => by
  rcases h with ⟨rfl, h⟩ | ⟨b, rfl, h⟩
  · rw [h]
    simp [Builtin.len_, run_underlying Try.underlying52]
    rfl
  · have := World.ownsMap.len h Try.underlying52 ty
    rw [size_mapD] at this
    exact this
/-- what was laid in is still there -/
theorem TagsAt.after {w w' : World} {ks : Nat} {p : Option Nat} {S T : TS} (hs : SetAt w ks S) (h : TagsAt w p T) (hs' : SetAt w' ks (S.or T)) (hg : w.grownBy w' (some ks)) : TagsAt w' p T := by
  rcases h with ⟨rfl, h⟩ | ⟨k, rfl, h⟩
  · exact .inl ⟨rfl, h⟩
  · by_cases e : k = ks
    · subst e
      have he := hs.same h
      refine .inr ⟨k, rfl, hs'.congr (TS.l_ext fun x hx => ?_)⟩
      show (S x || T x) = T x
      cases h1 : T x
      · cases h2 : S x
        · rfl
        · have := (TS.l_mem.1 (he ▸ TS.l_mem.2 ⟨hx, h2⟩)).2
          rw [h1] at this
          cases this
      · simp
    · exact .inr ⟨k, rfl, h.kept hg (fun e' => e (Option.some.inj e'))⟩
set_option maxHeartbeats 8000000 in
theorem join_ok (l : EL) (G : GL) (B : Nat) (hF : GFull l G) : ∀ (k : Nat) (t : TT), t.sz ≤ k → k ≤ 10000 → JoinC l G B t := by
  intro k
  induction k with
  | zero => intro t h0; have := t.sz_pos; omega
  | succ k ih =>
  intro t hsk hk w b ks V s hG hB hl ht hs hko hkB
  have hnl : t.nal ≤ 10000 := by have := t.nal_sz; omega
  have hJp : ∀ i, i < t.nal → JoinC l G B (t.alt i) := fun i hi => ih _ (by have := TT.alt_sz hi; omega) (by omega)
  have hJe : ∀ i, i < t.en → JoinC l G B (t.et i) := fun i hi => ih _ (by have := TT.et_sz hi; omega) (by omega)
  obtain ⟨pa, pc, aa, ac, ea, ec, TC⟩ := ht.tcells
  have HTC := Lib.hid TC
  have hbx := Bx.new w t.cells.toArray 35
  have HXN := Lib.hid hbx
  have c0 := hbx.cell 0 TC.kd
  have hb0 : Below w.heap.size w (w.alloc (.cells t.cells.toArray 35)) := (Below.refl w.heap.size w).alloc (Nat.le_refl _) _
  have HB0 := Lib.hid hb0
  have hblt := hG.bx.lt
  have hkslt := hs.lt
  have hksb : ks ≠ b := fun e => by have := hG.ob; rw [← e, hko] at this; cases this
  have hgA : GAt B (w.alloc (.cells t.cells.toArray 35)) b l G V := GAtL.alloc hG _
  have HGA := Lib.hid hgA
  have hBA : B ≤ (w.alloc (.cells t.cells.toArray 35)).heap.size := Nat.le_trans hB hb0.size
  have H1T := Lib.hid (one_tcells ht)
  have hsz1 : (w.alloc (.cells t.cells.toArray 35)).heap.size = w.heap.size + 1 := by simp
  have HLA := Lib.hid (hl.below (hb0.mono hB) (Nat.le_refl _))
  have HTA := Lib.hid (ht.below (hb0.mono hB) (Nat.le_refl _))
  have HSA := Lib.hid (hs.block (hb0.block ks hkslt))
  have HSZ1 := Lib.hid hsz1
  have HRT := Lib.hid (show (w.alloc (.cells t.cells.toArray 35)).rangeAt w.heap.size 0 t.cells from hbx.range)
  have HJE := Lib.hid hJe
  by_cases h10 : t.kd = 10
  · have HP := Lib.hid (parts_ok l G B t hJp hnl (w.alloc (.cells t.cells.toArray 35)) b ks V s hgA hBA HLA.out HTA.out HSA.out hko hkB)
    rw [h10] at c0
    clear hJp hJe TC hG hgA hbx hb0 hs hl ht hsz1
    go_enter Try.func16, Try.ntmps16
    go_wp2_with (refine wpList_load_mid rfl 35 (.tmp 5) rfl w.heap.size 0 rfl t.cells _ HRT.out Try.underlying35 rfl (by rw [info_T, H1T.out.1]) ?_)
    refine HP.out.mono ?_
    rintro e w2 ⟨r, V2, rfl, h1, h2, h3, h4⟩
    have HG2 := Lib.hid h1
    have HM2 := Lib.hid ((JV.of_below (b := b) (ks := some ks) (V := V) HB0.out).trans h2)
    have HY := Lib.hid h3
    have HN := Lib.hid h4
    have hbw := h2.below HGA.out hBA (fun k hk => by cases hk; exact hkB)
    have HBW := Lib.hid hbw
    have hs2 := h2.jm.size
    have d14 : w2.cell? ⟨w.heap.size, 14, none⟩ = some (.slice ea t.en ec) := (World.cell?_of_block (w := w.alloc (.cells t.cells.toArray 35)) (a := ⟨w.heap.size, 14, none⟩) (h2.jm.block w.heap.size (by have := HSZ1.out; omega) (by omega) (fun e => by cases e; omega))).trans (HXN.out.cell 14 HTC.out.es)
    clear h1 h2 h3 h4 hbw c0
    cases r with
    | false =>
      go_wp2_with fail
      go_ret
      exact ⟨false, V2, rfl, HG2.out, HM2.out, fun h => (by cases h), fun _ => choice_fail h10 (HN.out (by first | rfl | trivial))⟩
    | true =>
      have HB2 := Lib.hid ((HB0.out.mono hB).trans HBW.out)
      have hB2 : B ≤ w2.heap.size := by have := HSZ1.out; omega
      have HAL := Lib.hid (alone_ok l G B ea t.en ec t.et HJE.out w2 b V2 HG2.out hB2 (HLA.out.below HBW.out (Nat.le_refl _)) (HTC.out.er.below HB2.out (Nat.le_refl _)) (fun i hi => (HTC.out.el i hi).below HB2.out (Nat.le_refl _)))
      go_wp2_with fail
      refine HAL.out.mono ?_
      rintro e w3 ⟨r, V3, rfl, h1, h2, h3⟩
      have HG3 := Lib.hid h1
      have HM3 := Lib.hid (HM2.out.trans h2.weak)
      have HE3 := Lib.hid h3
      have HK3 := Lib.hid (h2.jm.block ks (by have := HSZ1.out; omega) hksb (by nofun))
      clear h1 h2 h3 d14
      go_wp2_with fail
      go_ret
      refine ⟨r, V3, rfl, HG3.out, HM3.out, fun hr => ?_, fun hr => ?_⟩
      · obtain ⟨P, h5, h6⟩ := HY.out (by first | rfl | trivial)
        obtain ⟨h7, h8, h9⟩ := choice_parts h10 h6 (HE3.out.1 hr)
        exact ⟨h7, h8, P, h5.block HK3.out, h9⟩
      · rintro ⟨h5, _⟩
        have h6 := HE3.out.2 (Rt.iff.1 h5).2.1
        rw [hr] at h6
        cases h6
  · have q1 : (t.kd == 10) = false := beq_eq_false_iff_ne.2 h10
    have HTO := Lib.hid (tagsOf_ok B (w.alloc (.cells t.cells.toArray 35)) b l G V t hgA hBA HLA.out HTA.out hF h10)
    have HJP := Lib.hid hJp
    obtain ⟨kd, hkd⟩ : ∃ kd, t.kd = kd := ⟨_, rfl⟩
    rw [hkd] at c0 q1
    have hmk := mk_set
    clear hJp hJe TC hG hgA hbx hb0 hs hl ht hsz1 hkd
    go_enter Try.func16, Try.ntmps16
    go_wp2_with (refine wpList_load_mid rfl 35 (.tmp 5) rfl w.heap.size 0 rfl t.cells _ HRT.out Try.underlying35 rfl (by rw [info_T, H1T.out.1]) ?_)
    refine HTO.out.mono ?_
    rintro e w2 ⟨p, V2, T, rfl, h1, h2, h3, h4, h5⟩
    have hbw := h2.below HGA.out hBA (fun k hk => by cases hk)
    have HBW := Lib.hid hbw
    have hs2 := h2.jm.size
    have hx2 : Bx w2 w.heap.size t.cells.toArray 35 := (h2.jm.block w.heap.size (by have := HSZ1.out; omega) (by omega) (by nofun)).trans HXN.out
    have HX2 := Lib.hid hx2
    have HRT2 := Lib.hid (fun o => (show (w2.alloc o).rangeAt w.heap.size 0 t.cells from (hx2.alloc o).range))
    have HSK2 := Lib.hid (HSA.out.block (h2.jm.block ks (by have := HSZ1.out; omega) hksb (by nofun)))
    have HM2 := Lib.hid (show JV b none V V2 w w2 from (JV.of_below (b := b) (ks := none) (V := V) HB0.out).trans h2)
    have hko2 : V2.own ks = .no := h2.own ks (by have := HSZ1.out; omega) hko
    have HG2 := Lib.hid h1
    have HTT := Lib.hid h3
    have HTI := Lib.hid h4
    have HNE := Lib.hid h5
    have hB2 : B ≤ w2.heap.size := by have := HSZ1.out; omega
    have hno : V2.own w2.heap.size = .no := Classical.byContradiction fun h => by have := (h1.lo _ h).2; omega
    have hbm := (Below.refl w2.heap.size w2).alloc (Nat.le_refl _) (.map #[] 0)
    have hbm2 := hbw.trans (hbm.mono hB2)
    have HBM2 := Lib.hid hbm2
    have HP := Lib.hid (parts_ok l G B t HJP.out hnl (w2.alloc (.map #[] 0)) b w2.heap.size V2 TS.no (GAtL.alloc h1 _) (Nat.le_trans hB2 hbm.size) (HLA.out.below hbm2 (Nat.le_refl _)) (HTA.out.below hbm2 (Nat.le_refl _)) (SetAt.made w2 TS.no rfl) hno hB2)
    have HBM := Lib.hid hbm
    have hbl2 := h1.bx.lt
    clear h1 h2 h3 h4 h5 hbw hx2 hno hbm hbm2 c0 HTO
    go_wp2_with (refine wpList_load_mid rfl 35 (.tmp 5) rfl w.heap.size 0 rfl t.cells _ (HRT2.out _) Try.underlying35 rfl (by rw [info_T, H1T.out.1]) ?_)
    refine HP.out.mono ?_
    rintro e w3 ⟨r, V3, rfl, h1, h2, h3, h4⟩
    have hsm : (w2.alloc (.map #[] 0)).heap.size = w2.heap.size + 1 := by simp
    have hs3 := h2.jm.size
    have hs21 : w.heap.size + 1 ≤ w2.heap.size := by have := HSZ1.out; omega
    have HG3 := Lib.hid h1
    have HM3 := Lib.hid (show JV b none V V3 w w3 from JV.fresh (HM2.out.trans (JV.of_below HBM.out)) h2 (by omega))
    have HY := Lib.hid h3
    have HN := Lib.hid h4
    have hbw := h2.below (GAtL.alloc HG2.out (.map #[] 0)) (Nat.le_trans hB2 HBM.out.size) (fun k hk => by cases hk; exact hB2)
    have HBW3 := Lib.hid ((HB0.out.mono hB).trans (HBM2.out.trans hbw))
    have HBL3 := Lib.hid (HBM2.out.trans hbw)
    have keep : ∀ j, j < w2.heap.size → j ≠ b → w3.heap[j]? = w2.heap[j]? := fun j hj hb => (h2.jm.block j (by omega) hb (fun e => by cases e; omega)).trans (Below.heap_alloc w2 _ j hj)
    have d14 : w3.cell? ⟨w.heap.size, 14, none⟩ = some (.slice ea t.en ec) := (World.cell?_of_block (w := w2) (a := ⟨w.heap.size, 14, none⟩) (keep w.heap.size (by have := HSZ1.out; omega) (by omega))).trans (HX2.out.cell 14 HTC.out.es)
    have HSK3 := Lib.hid (HSK2.out.block (keep ks (by have := HSZ1.out; omega) hksb))
    have HTT3 := Lib.hid (HTT.out.block (fun k hk => keep k (HTT.out.lt k hk) (HNE.out k hk)))
    have hko3 : V3.own ks = .no := h2.own ks (by have := HSZ1.out; omega) hko2
    have HKP := Lib.hid keep
    clear h1 h2 h3 h4 hbw keep
    cases r with
    | false =>
      go_wp2_with fail
      go_ret
      exact ⟨false, V3, rfl, HG3.out, HM3.out.weak, fun h => (by cases h), fun _ hh => other_fail (HN.out (by first | rfl | trivial)) hh.1⟩
    | true =>
      have hB3 : B ≤ w3.heap.size := by omega
      have HAL := Lib.hid (alone_ok l G B ea t.en ec t.et HJE.out w3 b V3 HG3.out hB3 (HLA.out.below HBL3.out (Nat.le_refl _)) (HTC.out.er.below HBW3.out (Nat.le_refl _)) (fun i hi => (HTC.out.el i hi).below HBW3.out (Nat.le_refl _)))
      have hbl3 := HG3.out.bx.lt
      go_wp2_with fail
      refine HAL.out.mono ?_
      rintro e w4 ⟨r, V4, rfl, h1, h2, h3⟩
      have hs4 := h2.jm.size
      have HG4 := Lib.hid h1
      have HM4 := Lib.hid (HM3.out.trans h2)
      have HE4 := Lib.hid h3
      have HSK4 := Lib.hid (HSK3.out.block (h2.jm.block ks (by have := HSZ1.out; omega) hksb (by nofun)))
      have HTT4 := Lib.hid (HTT3.out.block (fun k hk => h2.jm.block k (HTT3.out.lt k hk) (HNE.out k hk) (by nofun)))
      have hko4 : V4.own ks = .no := h2.own ks (by have := HSZ1.out; omega) hko3
      clear h1 h2 h3 d14
      cases r with
      | false =>
        go_wp2_with fail
        go_ret
        refine ⟨false, V4, rfl, HG4.out, HM4.out.weak, fun h => (by cases h), fun _ hh => ?_⟩
        have h6 := HE4.out.2 (Rt.iff.1 hh.1).2.1
        cases h6
      | true =>
        have HAD := Lib.hid (add_ok w4 ks p s T HSK4.out HTT4.out)
        have hap := TS.or_apart (S := s) (T := T)
        obtain ⟨x, hx⟩ : ∃ x, (s.or T).l.length = x := ⟨_, rfl⟩
        obtain ⟨y, hy⟩ : ∃ y, s.l.length = y := ⟨_, rfl⟩
        obtain ⟨z, hz⟩ : ∃ z, T.l.length = z := ⟨_, rfl⟩
        rw [hx, hy] at HAD
        rw [hx, hy, hz] at hap
        obtain ⟨rr, hrr⟩ : ∃ rr : Bool, (((x : Int) - (y : Int)) == (z : Int)) = rr := ⟨_, rfl⟩
        have HRR := Lib.hid (show rr = true ↔ Dj s l t from by
          rw [← hrr, beq_iff_eq]
          constructor
          · intro h x' hx' hs' hT'
            exact hap.1 (by omega) x' hx' ⟨hs', (HTI.out x' hx').2 hT'⟩
          · intro h
            have := hap.2 (fun x' hx' hh => h x' hx' hh.1 ((HTI.out x' hx').1 hh.2))
            omega)
        have HZ := Lib.hid hz
        clear hap hx hy hz
        go_wp2_with fail
        refine HAD.out.mono ?_
        rintro e w5 ⟨rfl, h1, h2⟩
        have hs5 := h2.size
        have HS5 := Lib.hid h1
        have hln : ∀ ty, (Builtin.len_ #[52] ty #[.map p]).run Try.prog w5 = .ok (.int .i64 (z : Int)) w5 := by
          have := (show TagsAt w5 p T from TagsAt.after HSK4.out HTT4.out h1 h2).len
          rw [HZ.out] at this
          exact this
        have HG5 := Lib.hid (show GAt B w5 b l G V4 from GAtL.keep HG4.out h2.size (fun k hk => h2.block k (HG4.out.lo k hk).2 (fun e => hk (by rw [Option.some.inj e]; exact hko4))))
        have HM5 := Lib.hid (HM4.out.weak.trans (⟨⟨h2.os, h2.tape, h2.output, h2.size, fun j hj _ hk => h2.block j hj hk⟩, rfl, fun _ _ h => h⟩ : JV b (some ks) V4 V4 w4 w5))
        clear h1 h2 HAD
        go_wp2_with fail
        go_ret
        refine ⟨rr, V4, rfl, HG5.out, HM5.out, fun hr => ?_, fun hr hh => ?_⟩
        · obtain ⟨P, h5, h6⟩ := HY.out (by first | rfl | trivial)
          have h7 := other_parts h6.done (HE4.out.1 (by first | rfl | trivial))
          refine ⟨h7, HRR.out.1 hr, s.or T, HS5.out, fun x hx => ?_⟩
          show (s x || T x) = true ↔ _
          rw [Bool.or_eq_true, HTI.out x hx]
        · have := HRR.out.2 hh.2
          rw [hr] at this
          cases this
end Go.Proofs.Ytecedbjkebdeaaa
