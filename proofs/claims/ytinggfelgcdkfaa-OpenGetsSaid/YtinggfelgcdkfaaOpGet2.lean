/-
  Package open: GetOpen.
-/
import Derived.Test.YtinggfelgcdkfaaOpGet
namespace Go.Proofs.Ytinggfelgcdkfaa
open Go.RowKit Go.Shelf
set_option linter.unusedVariables false
set_option linter.unusedSimpArgs false
set_option maxRecDepth 100000

attribute [local go_sem] Oper.semAt_some

theorem counts_ok (w : World) (pt : Option Addr) (al : Bool) (n : Nat) :
    CallsIn Fence.wide n Try.prog 56 #[.pointer pt, .bool al] w fun e w' => e = .returned (.func (.func 76) #[] #[.pointer (some ⟨w.heap.size, 0, none⟩), .pointer (some ⟨w.heap.size + 1, 0, none⟩)]) ∧
      w' = (w.alloc (.cells #[.pointer pt] 40)).alloc (.cells #[.bool al] 4) := by
  refine callsIn_of_wp Try.func56 rfl trivial ?_ rfl
  simp only [Try.ntmps56, List.size_toArray, List.length_cons, List.length_nil, Nat.reduceAdd, Nat.reduceSub, Array.replicate_succ, Array.replicate_zero, List.push_toArray, List.append_toArray, List.nil_append, List.cons_append]
  gi_wp2
  go_ret
  exact ⟨rfl, rfl⟩
/-- octets gathered behind those so far, and kept -/
theorem all_next {w0 W w1 : World} {b : Nat} {al : Bool} {s : Value} {L : List Nat} {p : Nat} {acc l : List Nat} {v v' : Value} (hb : b < w0.heap.size) (hd : ∀ g' o cap, s = .slice (some ⟨g', o, none⟩) L.length cap → L ≠ [] → g' < w0.heap.size)
    (hr : RdAt W b s L p) (hg : Gbox w0 b al W) (hc : Cel W (w0.heap.size + 3) 22 v) (hrow : W.ownsRow (w0.heap.size + 6) 5 1 v acc.length (u8s acc)) (hsz : w0.heap.size + 6 ≤ W.heap.size)
    (hrow' : w1.ownsRow (w0.heap.size + 6) 5 1 v' (acc.length + l.length) (u8s acc ++ u8s l)) (hgr : W.grownBy w1 v.ownBlock) (h1 : ∀ i, acc.getD i 0 < 256) (h2 : ∀ i, l.getD i 0 < 256) :
    KeepsOthers W (w1.setCell ⟨w0.heap.size + 3, 0, none⟩ v') ∧ RdAt (w1.setCell ⟨w0.heap.size + 3, 0, none⟩ v') b s L p ∧ Gbox w0 b al (w1.setCell ⟨w0.heap.size + 3, 0, none⟩ v') ∧ AllAt w0 (w1.setCell ⟨w0.heap.size + 3, 0, none⟩ v') (acc ++ l) ∧
      Cel w1 (w0.heap.size + 3) 22 v := by
  have hown : ∀ k, v.ownBlock = some k → w0.heap.size + 6 ≤ k ∧ ∃ cs t fr, W.heap[k]? = some (.cells cs t fr) := by
    intro k hk
    rcases hrow.2 with ⟨rfl, _⟩ | ⟨g, cap, cur, rfl, hg2, hh, _⟩
    · cases hk
    · cases hk
      exact ⟨hg2, _, _, _, hh⟩
  have hbel : Below (w0.heap.size + 6) W w1 := (Below.refl _ W).grown hgr hsz (fun k hk => (hown k hk).1)
  have hk1 : KeepsOthers W w1 := KeepsOthers.of_grownBy hgr (fun j o e ho => by
    obtain ⟨_, cs, t, fr, hcs⟩ := hown j e
    rw [hcs] at ho
    cases ho
    rfl)
  have hc1 := hc.old hbel (by omega)
  have hr1 := hr.old (by omega) (fun g' o cap e hne => by have := hd g' o cap e hne; omega) hbel
  refine ⟨hk1.trans (KeepsOthers.setCell _ _ _), ?_, (hg.old hbel).set _, ⟨v', hc1.set _, ?_, ?_⟩, hc1⟩
  · exact hr1.other _ _ _ (by omega) (fun g' o cap e hne => by have := hd g' o cap e hne; omega)
  · have h3 : w1.ownsRow (w0.heap.size + 6) 5 1 v' (acc ++ l).length (u8s (acc ++ l)) := by
      rw [List.length_append, u8s_append]
      exact hrow'
    obtain ⟨h4, h5 | ⟨g, cap, cur, hv, hg2, hh, r⟩⟩ := h3
    · exact ⟨h4, .inl h5⟩
    · exact ⟨h4, .inr ⟨g, cap, cur, hv, hg2, (heap_setCell_other _ _ _ _ (by show g ≠ w0.heap.size + 3; omega)).trans hh, r⟩⟩
  · intro i
    rw [List.getD_eq_getElem?_getD, List.getElem?_append]
    have a1 := h1 i
    have a2 := h2 (i - acc.length)
    rw [List.getD_eq_getElem?_getD] at a1 a2
    split
    · exact a1
    · exact a2
theorem gx_set {w0 W : World} {b : Nat} {al : Bool} {s : Value} {L : List Nat} {q : Nat} {fin : Ro} (e : Int) (hb : b < w0.heap.size) (hd : ∀ g' o cap, s = .slice (some ⟨g', o, none⟩) L.length cap → L ≠ [] → g' < w0.heap.size)
    (hr : RdAt W b s L q) (hg : Gbox w0 b al W) (hf : fin = ⟨e, [], q⟩) :
    KeepsOthers W ((W.setCell ⟨w0.heap.size + 1, 0, none⟩ (.slice none 0 0)).setCell ⟨w0.heap.size + 2, 0, none⟩ (.int .i64 e)) ∧ GX w0 b s L fin ((W.setCell ⟨w0.heap.size + 1, 0, none⟩ (.slice none 0 0)).setCell ⟨w0.heap.size + 2, 0, none⟩ (.int .i64 e)) := by
  subst hf
  refine ⟨(KeepsOthers.setCell _ _ _).trans (KeepsOthers.setCell _ _ _), rfl, (hg.res1.set _).other _ _ _ (by omega), (hg.res2.other _ _ _ (by omega)).set _, ?_, (hg.only.set (by omega) _).set (by omega) _⟩
  exact (hr.other _ _ _ (by omega) (fun g' o cap e hne => by have := hd g' o cap e hne; omega)).other _ _ _ (by omega) (fun g' o cap e hne => by have := hd g' o cap e hne; omega)
theorem oct_split {L : List Nat} {q v : Nat} (h : oerr L q v = 0) (hq : q ≤ 8 * L.length) : q + 8 * v ≤ 8 * L.length ∧ olst L q v = octetsAt (bitsOf L) q v ∧ opos L q v = q + 8 * v := by
  refine ⟨?_, ?_, ?_⟩
  · unfold oerr at h
    rw [if_neg (by omega)] at h
    split at h
    · cases h
    · omega
  · unfold olst
    rw [if_pos h, Int.toNat_natCast]
  · unfold opos
    rw [if_pos h, Int.toNat_natCast]
set_option maxHeartbeats 2000000 in
theorem oget_in (w : World) (b : Nat) (s : Value) (L : List Nat) (p : Nat) (al : Bool) (h : RdAt w b s L p) (hL : L.length ≤ 1000000000) (n : Nat) (hn3 : 3 ≤ n) :
    CallsIn Fence.wide n Try.prog 31 #[.pointer (some ⟨b, 0, none⟩), .bool al] w fun e w' => ∃ v, e = .returned (.tuple #[v, .int .i64 (rdOpen al L p).e]) ∧ SlAt w' v (rdOpen al L p).l ∧ RdAt w' b s L (rdOpen al L p).p ∧ Only b w w' := by
  obtain ⟨fin, hfin⟩ : ∃ fin, rdOpen al L p = fin := ⟨_, rfl⟩
  rw [hfin]
  have hblt := h.lt
  have hdat := h.data_lt
  obtain ⟨i0, hi, hz0, hz1, hz2⟩ := info_parts info_u8
  refine callsIn_of_wp_marks Try.func31 rfl trivial ?_ rfl
  simp only [Try.ntmps31, List.size_toArray, List.length_cons, List.length_nil, Nat.reduceAdd, Nat.reduceSub, Array.replicate_succ, Array.replicate_zero, List.push_toArray, List.append_toArray, List.nil_append, List.cons_append]
  have HW := Lib.hid h
  have HF := Lib.hid hfin
  have HD := Lib.hid hdat
  clear h hfin hdat
  gi_wp2_with fail
  refine ⟨trivial, fun h => (by cases h), ?_⟩
  refine (counts_ok _ _ _ _).mono ?_
  rintro e' w2 ⟨rfl, rfl⟩
  gi_wp2_with fail
  obtain ⟨W0, hW0⟩ : ∃ W0, (((((w.alloc (.cells #[.pointer (some ⟨b, 0, none⟩)] 40)).alloc (.cells #[.slice none 0 0] 22)).alloc (.cells #[.int .i64 0] 27)).alloc (.cells #[.slice none 0 0] 22)).alloc (.cells #[.pointer (some ⟨b, 0, none⟩)] 40)).alloc (.cells #[.bool al] 4) = W0 := ⟨_, rfl⟩
  have hsz : W0.heap.size = w.heap.size + 6 := by rw [← hW0]; simp
  have hbl : Below w.heap.size w W0 := by
    rw [← hW0]
    exact ((((((Below.refl _ w).alloc (Nat.le_refl _) _).alloc (by simp) _).alloc (by simp; omega) _).alloc (by simp; omega) _).alloc (by simp; omega) _).alloc (by simp; omega) _
  have hP0 : Gbox w b al W0 ∧ AllAt w W0 [] := by
    have c0 := Cel.new w 40 (.pointer (some ⟨b, 0, none⟩))
    have c1 := Cel.new (w.alloc (.cells #[.pointer (some ⟨b, 0, none⟩)] 40)) 22 (.slice none 0 0)
    have c2 := Cel.new ((w.alloc (.cells #[.pointer (some ⟨b, 0, none⟩)] 40)).alloc (.cells #[.slice none 0 0] 22)) 27 (.int .i64 0)
    have c3 := Cel.new (((w.alloc (.cells #[.pointer (some ⟨b, 0, none⟩)] 40)).alloc (.cells #[.slice none 0 0] 22)).alloc (.cells #[.int .i64 0] 27)) 22 (.slice none 0 0)
    have c4 := Cel.new ((((w.alloc (.cells #[.pointer (some ⟨b, 0, none⟩)] 40)).alloc (.cells #[.slice none 0 0] 22)).alloc (.cells #[.int .i64 0] 27)).alloc (.cells #[.slice none 0 0] 22)) 40 (.pointer (some ⟨b, 0, none⟩))
    have c5 := Cel.new (((((w.alloc (.cells #[.pointer (some ⟨b, 0, none⟩)] 40)).alloc (.cells #[.slice none 0 0] 22)).alloc (.cells #[.int .i64 0] 27)).alloc (.cells #[.slice none 0 0] 22)).alloc (.cells #[.pointer (some ⟨b, 0, none⟩)] 40)) 4 (.bool al)
    simp only [World.size_alloc] at c1 c2 c3 c4 c5
    have ho := Only.of_below (b := b) hbl
    rw [← hW0] at ho ⊢
    exact ⟨⟨ho, (((((c0.alloc _).alloc _).alloc _).alloc _).alloc _), ((((c1.alloc _).alloc _).alloc _).alloc _), (((c2.alloc _).alloc _).alloc _), (c4.alloc _), c5⟩, ⟨_, ((c3.alloc _).alloc _), World.ownsRow_nil _ _ _ _, by simp⟩⟩
  simp only [hW0, Nat.add_assoc, Nat.reduceAdd]
  clear hW0
  have HP0 := Lib.hid hP0
  have HRd0 := Lib.hid (HW.out.below hbl)
  have HSZ := Lib.hid hsz
  clear hP0 hbl hsz
  refine rangeFunc_own (α := Cnt) rfl (by omega) (gf := 76) (lb := #[.pointer (some ⟨w.heap.size + 4, 0, none⟩), .pointer (some ⟨w.heap.size + 5, 0, none⟩)]) rfl trivial (enters_of Try.func76 (by kernel_rfl) rfl)
    (encs := fun x => #[.int .i64 x.v, .int .i64 x.e]) (fun _ => rfl)
    (fun W => RdAt W b s L p ∧ Gbox w b al W ∧ AllAt w W []) (fun W => fin.e = 0 ∧ RdAt W b s L fin.p ∧ Gbox w b al W ∧ AllAt w W fin.l) (GX w b s L fin)
    (fun x W => w.heap.size + 6 ≤ W.heap.size ∧ cntM w b al s L fin x W) (cntN w b al s L) (fun _ => GX w b s L fin)
    (fun x W r o o' hr hl hc h => ⟨by simpa using h.1, h.2.1.bk hl hc o', h.2.2.1.bk (by have := HSZ.out; omega) hl hc o', h.2.2.2.1.bk hl hc o', h.2.2.2.2⟩)
    (fun x W r o o' hr hl hc h => ⟨h.1, h.2.1, h.2.2.1.bk hl hc o', h.2.2.2.1.bk (by have := HSZ.out; omega) hl hc o', h.2.2.2.2.bk hl hc o'⟩)
    (fun x W r o o' hr hl hc h => h.bk (by have := HSZ.out; omega) hl hc o')
    (fun W r o o' hr hl hc h => ⟨h.1, h.2.1.bk hl hc o', h.2.2.1.bk (by have := HSZ.out; omega) hl hc o', h.2.2.2.bk hl hc o'⟩)
    (fun W r o o' hr hl hc h => h.bk (by have := HSZ.out; omega) hl hc o')
    (fun o o' => by
      have hb1 := ((Below.refl _ W0).alloc (Nat.le_refl _) o).alloc (by simp) o'
      exact ⟨HRd0.out.below hb1, HP0.out.1.step hblt (Only.of_below hb1), HP0.out.2.step hblt (Only.of_below hb1)⟩)
    (fun r K Kx W hK _ hY hI hk => (counts1_ok r K Kx hK w b hblt al s L hL p fin HF.out (n - 1) (fun x W hm hk => hY x W ⟨by have := hm.2.1.al.lt; omega, hm⟩ hk) W hI.1 hI.2.1 hI.2.2 hk).mono (fun e w' h => ⟨h.1, by
      rcases h.2 with h | h
      · exact .inl ⟨⟨h.1, h.2.1, h.2.2.1, h.2.2.2.1⟩, h.2.2.2.2⟩
      · exact .inr h⟩))
    (fun x => { tmps := #[Value.pointer (some ⟨b, 0, none⟩), Value.bool al, Value.pointer (some ⟨w.heap.size, 0, none⟩), undef, Value.pointer (some ⟨w.heap.size + 1, 0, none⟩),
          Value.pointer (some ⟨w.heap.size + 2, 0, none⟩), Value.pointer (some ⟨w.heap.size + 3, 0, none⟩), .int .i64 x.v, .int .i64 x.e, undef, undef,
          Value.pointer (some ⟨b, 0, none⟩), Value.bool false, Value.pointer (some ⟨b, 0, none⟩), Value.bool al,
          Value.func (Fn.func 76) #[] #[.pointer (some ⟨w.heap.size + 4, 0, none⟩), .pointer (some ⟨w.heap.size + 5, 0, none⟩)],
          .int .i64 x.v, .int .i64 x.e, undef, undef, undef, undef, undef, undef, undef, undef, undef, undef, undef, undef, undef, undef, undef, undef], defers := [] })
    ?assign ?body ?done ?stop
  case assign =>
    rintro r x W K hK
    gi_wp2
    exact hK
  case body =>
    rintro r ⟨v, e, q, acc⟩ W ⟨hWs, hr, hg, ha, he1, he2, he3⟩
    have hc0 := hg.rd.cell
    have hc1 := hg.res1.cell
    have hf1 := hg.res1.free
    have hc2 := hg.res2.cell
    have hf2 := hg.res2.free
    replace hr : RdAt W b s L q := hr
    have HR := Lib.hid hr
    have HG := Lib.hid hg
    have HA := Lib.hid ha
    replace hWs : w.heap.size + 6 ≤ W.heap.size := hWs
    replace he1 : e ≠ 0 → fin = ⟨e, [], q⟩ := he1
    replace he2 : e = 0 → oerr L q v ≠ 0 → fin = ⟨oerr L q v, [], opos L q v⟩ := he2
    replace he3 : e = 0 → acc.length + v ≤ 1048576 := he3
    clear hr hg ha
    by_cases he : e = 0
    · replace he2 := he2 he
      replace he3 := he3 he
      subst he
      clear he1
      by_cases ho : oerr L q v = 0
      · obtain ⟨o1, o2, o3⟩ := oct_split ho HR.out.le
        have HO := Lib.hid (roctets_ok W b L q v HR.out (by omega) o1)
        have HEN := Lib.hid (And.intro ho (And.intro o2 o3))
        have hlt := octetsAt_lt L q v o1
        have hol := octetsAt_length (bitsOf L) q v
        have HLT := Lib.hid hlt
        clear he2 ho o2 o3 hlt
        gi_wp2_with fail
        refine ⟨trivial, fun h => (by cases h), ?_⟩
        refine (CallsIn.inRound r (callsIn_wide.2 HO.out)).mono ?_
        rintro e' w3 ⟨rfl, h1, h2, h3⟩
        have hA3 := HA.out.step hblt h3
        have hG3 := HG.out.step hblt h3
        obtain ⟨av, ac, arow, abyte⟩ := hA3
        obtain ⟨aa, acap, rfl⟩ := own_shape arow
        have hca := ac.cell
        have hfa := ac.free
        have hbo := hG3.only
        have hsz3 := h3.size
        have hcells := data_cells (data_of_row w3 W.heap.size _ h2 HLT.out)
        have HR3 := Lib.hid h1
        have HROW := Lib.hid h2
        have HO3 := Lib.hid h3
        have HG3 := Lib.hid hG3
        have HAC := Lib.hid ac
        have HAR := Lib.hid arow
        have HAB := Lib.hid abyte
        have HCL := Lib.hid hcells
        have HKO := Lib.hid (h3.keeps HR.out.cells)
        have hmax : acc.length + v ≤ maxLen := by unfold maxLen; omega
        have HM := Lib.hid hmax
        clear h1 h2 h3 hG3 ac arow abyte hcells hbo hmax HO
        generalize hls : octetsAt (bitsOf L) q v = ls at *
        gi_wp2_with (gi_at_builtin; refine wpListIn_append_own _ rfl (.tmp 30) (.tmp 31) 22 rfl (w.heap.size + 6) 5 i0 (.int .u8 0) 1 1 Try.underlying22 hi hz0 hz1 hz2 rfl (by decide) _ _ _ rfl HAR.out ⟨W.heap.size, 0, none⟩ v v (u8s ls) rfl (by rw [u8s_length]; omega) HCL.out (u8s_one ls) HM.out (by omega) (by omega) ?_; intro v' w4 hown4 hgr4 _; obtain ⟨a', cap', rfl⟩ := own_shape hown4; have hnext := all_next (l := ls) hblt HD.out HR3.out HG3.out HAC.out HAR.out (by omega) (by rw [hol]; exact hown4) hgr4 HAB.out HLT.out; have HNX := Lib.hid hnext; have hcn := hnext.2.2.2.2.cell; have hfn := hnext.2.2.2.2.free; clear hnext hown4 hgr4)
        refine ⟨HKO.out.trans HNX.out.1, rfl, HEN.out.1, ?_, HNX.out.2.2.1, ?_⟩
        · show RdAt _ b s L (opos L q v)
          rw [HEN.out.2.2]
          exact HNX.out.2.1
        · show AllAt w _ (acc ++ olst L q v)
          rw [HEN.out.2.1]
          exact HNX.out.2.2.2.1
      · have HE := Lib.hid (he2 ho)
        have HO := Lib.hid (roctets_any W b L q v HR.out (by omega))
        obtain ⟨n1, n2⟩ := ne_facts ho
        clear he2 ho
        generalize oerr L q v = oe at *
        generalize opos L q v = op at *
        generalize olst L q v = ol at *
        gi_wp2_with fail
        refine ⟨trivial, fun h => (by cases h), ?_⟩
        refine (CallsIn.inRound r (callsIn_wide.2 HO.out)).mono ?_
        rintro e' w3 ⟨sv, rfl, _, h1, h2⟩
        have hG3 := HG.out.step hblt h2
        have hd1 := hG3.res1.cell
        have hg1 := hG3.res1.free
        have hd2 := hG3.res2.cell
        have hg2 := hG3.res2.free
        have HN := Lib.hid (gx_set oe hblt HD.out h1 hG3 HE.out)
        have HKO := Lib.hid (h2.keeps HR.out.cells)
        clear h1 h2 hG3 hc1 hf1 hc2 hf2
        gi_wp2_with fail
        exact ⟨HKO.out.trans HN.out.1, HN.out.2⟩
    · have HN := Lib.hid (gx_set e hblt HD.out HR.out HG.out (he1 he))
      obtain ⟨n1, n2⟩ := ne_facts he
      clear he he1 he2 he3
      gi_wp2_with fail
      exact ⟨HN.out.1, HN.out.2⟩
  case done =>
    rintro D W hD ⟨h0, h1, h2, h3⟩ hK
    obtain ⟨av, ac, asl⟩ := h3.sl
    obtain ⟨_, aw, arow, _⟩ := h3
    obtain ⟨aa, an, acap, rfl⟩ : ∃ aa an acap, av = .slice aa an acap := by
      rcases asl with ⟨g, o, cap, rfl, _⟩ | ⟨_, a, cap, rfl⟩
      · exact ⟨_, _, _, rfl⟩
      · exact ⟨_, _, _, rfl⟩
    have hca := ac.cell
    have hc1 := h2.res1.cell
    have hf1 := h2.res1.free
    have hc2 := h2.res2.cell
    have hf2 := h2.res2.free
    obtain ⟨W2, hW2⟩ : ∃ W2, (W.setCell ⟨w.heap.size + 1, 0, none⟩ (.slice aa an acap)).setCell ⟨w.heap.size + 2, 0, none⟩ (.int .i64 0) = W2 := ⟨_, rfl⟩
    have hK' : W2.heap[D]? = some (.deferred (some [])) := by
      rw [← hW2]
      exact (heap_setCell_other _ _ _ _ (by show D ≠ w.heap.size + 2; have := HSZ.out; omega)).trans ((heap_setCell_other _ _ _ _ (by show D ≠ w.heap.size + 1; have := HSZ.out; omega)).trans hK)
    have hr2 : RdAt W2 b s L fin.p := by
      rw [← hW2]
      exact (h1.other _ _ _ (by omega) (fun g' o cap e hne => by have := HD.out g' o cap e hne; omega)).other _ _ _ (by omega) (fun g' o cap e hne => by have := HD.out g' o cap e hne; omega)
    have hs1 : Cel W2 (w.heap.size + 1) 22 (.slice aa an acap) := by rw [← hW2]; exact (h2.res1.set _).other _ _ _ (by omega)
    have hs2 : Cel W2 (w.heap.size + 2) 27 (.int .i64 0) := by rw [← hW2]; exact (h2.res2.other _ _ _ (by omega)).set _
    have ho2 : Only b w W2 := by rw [← hW2]; exact (h2.only.set (by omega) _).set (by omega) _
    have hsl2 : SlAt (W2.putObj D (.deferred none)) (.slice aa an acap) fin.l := by
      have n1 : ∀ cs fr, (W.setCell ⟨w.heap.size + 1, 0, none⟩ (.slice aa an acap)).heap[w.heap.size + 2]? ≠ some (.cells cs 5 fr) := by
        intro cs fr e
        have := (h2.res2.other (w.heap.size + 1) 0 (.slice aa an acap) (by omega))
        unfold Cel at this
        rw [this] at e
        injection e with e
        injection e with _ e _
        exact absurd e (by decide)
      have n0 : ∀ cs fr, W.heap[w.heap.size + 1]? ≠ some (.cells cs 5 fr) := by
        intro cs fr e
        have := h2.res1
        unfold Cel at this
        rw [this] at e
        injection e with e
        injection e with _ e _
        exact absurd e (by decide)
      have hown : OwnAt W (.slice aa an acap) fin.l := by
        have hcv : Cel W (w.heap.size + 3) 22 (.slice aa an acap) := ac
        have hev := hcv.symm.trans aw
        injection hev with hev
        injection hev with hev _ _
        injection hev with hev
        injection hev with hev _
        subst hev
        by_cases h0 : fin.l = []
        · refine .inr ⟨h0, ?_⟩
          rw [h0] at arow
          rcases arow.2 with ⟨e, _⟩ | ⟨g, cap, cur, e, _⟩
          · injection e with e1 e2 e3; subst e1 e2 e3; exact ⟨_, _, rfl⟩
          · injection e with e1 e2 e3; subst e1 e2 e3; exact ⟨_, _, rfl⟩
        · rcases arow.2 with ⟨e, hz⟩ | ⟨g, cap, cur, e, _, hh, _⟩
          · exact absurd (List.length_eq_zero_iff.1 hz) h0
          · rcases asl with ⟨g', o', cap', e', hd⟩ | ⟨hz, _⟩
            · rw [e] at e'
              injection e' with e1 e2 e3
              injection e1 with e1
              injection e1 with e1 e4
              subst e1 e4
              exact .inl ⟨h0, g, 0, cap, cur, (0, 0), e, hh, hd⟩
            · exact absurd hz h0
      rw [hW2.symm]
      have h5 := (hown.keep (Only.setCell (w := W) (b := w.heap.size + 1) 0 (.slice aa an acap)) n0).keep (Only.setCell 0 (.int .i64 0)) n1
      exact (h5.keep (only_put D (.deferred none)) (fun cs fr => no_cells (by rw [hW2]; exact hK') rfl _ _ _)).sl
    have hb2 := hr2.bk hK' rfl (.deferred none)
    have hp1 := (hs1.bk hK' rfl (.deferred none)).cell
    have hp2 := (hs2.bk hK' rfl (.deferred none)).cell
    have ho3 := ho2.put (o := .deferred none) (l := D) (by have := HSZ.out; omega) (.deferred none)
    have HSL := Lib.hid hsl2
    have HB2 := Lib.hid hb2
    have HO3 := Lib.hid ho3
    have HK2 := Lib.hid hK'
    have HE0 := Lib.hid h0
    have HP1 := Lib.hid hp1
    have HP2 := Lib.hid hp2
    have HWE := Lib.hid hW2
    clear hsl2 hb2 ho3 hK' h0 hp1 hp2 hs1 hs2 ho2 hr2 asl arow aw ac h1 h2 hW2
    gi_wp2
    rw [HWE.out]
    refine ⟨by simp, .inl ⟨_, _, rfl, run_takeDeferred HK2.out, ?_⟩⟩
    refine ⟨.tuple #[.slice aa an acap, .int .i64 0], ?_, ⟨_, by rw [HE0.out], HSL.out, HB2.out, HO3.out⟩⟩
    simp [results, Try.f31, go_sem, HP1.out, HP2.out]
  case stop =>
    rintro D W hD ⟨h0, h1, h2, h3, h4⟩ hK
    have hb2 := h3.bk hK rfl (.deferred none)
    have hp1 := (h1.bk hK rfl (.deferred none)).cell
    have hp2 := (h2.bk hK rfl (.deferred none)).cell
    have ho3 := h4.put (o := .deferred none) (l := D) (by have := HSZ.out; omega) (.deferred none)
    gi_wp2
    refine ⟨by simp, .inl ⟨_, _, rfl, run_takeDeferred hK, ?_⟩⟩
    refine ⟨.tuple #[.slice none 0 0, .int .i64 fin.e], ?_, ⟨_, rfl, .inr ⟨h0, _, _, rfl⟩, hb2, ho3⟩⟩
    simp [results, Try.f31, go_sem, hp1, hp2]
theorem oget_open (w : World) (b : Nat) (s : Value) (L : List Nat) (p : Nat) (al : Bool) (h : RdAt w b s L p) (hL : L.length ≤ 1000000000) :
    Calls Try.prog 31 #[.pointer (some ⟨b, 0, none⟩), .bool al] w fun e w' => ∃ v, e = .returned (.tuple #[v, .int .i64 (rdOpen al L p).e]) ∧ SlAt w' v (rdOpen al L p).l ∧ RdAt w' b s L (rdOpen al L p).p ∧ Only b w w' :=
  (callsIn_wide (n := 3)).1 (oget_in w b s L p al h hL 3 (by omega))
theorem oget_open_nil (w : World) (al : Bool) :
    Calls Try.prog 31 #[.pointer none, .bool al] w fun e w' => e = .returned (.tuple #[.slice none 0 0, .int .i64 1]) ∧ Below w.heap.size w w' := by
  go_enter Try.func31, Try.ntmps31
  go_wp2
  have hc1 := (Cel.new (w.alloc (.cells #[.pointer none] 40)) 22 (.slice none 0 0)).alloc (.cells #[.int .i64 1] 27)
  have hc2 := Cel.new ((w.alloc (.cells #[.pointer none] 40)).alloc (.cells #[.slice none 0 0] 22)) 27 (.int .i64 1)
  simp only [World.size_alloc] at hc1 hc2
  refine bodyPost_ret (v := .tuple #[.slice none 0 0, .int .i64 1]) ?_ rfl ⟨rfl, (((Below.refl _ w).alloc (Nat.le_refl _) _).alloc (by simp) _).alloc (by simp; omega) _⟩
  simp [results, Try.f31, go_sem, hc1.cell, hc2.cell]
end Go.Proofs.Ytinggfelgcdkfaa
