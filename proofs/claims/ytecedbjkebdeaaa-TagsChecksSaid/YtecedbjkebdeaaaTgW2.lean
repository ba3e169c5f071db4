/-
  Package tags: 'universal', 'giveAutomatic', 'reach'.
-/
import Derived.Test.YtecedbjkebdeaaaTgW
namespace Go.Proofs.Ytecedbjkebdeaaa
open Go.RowKit Go.Maps Go.WideElems Go.ChangeMaps Go.MapKept
set_option linter.unusedVariables false
set_option linter.unusedSimpArgs false
set_option maxRecDepth 100000

theorem set_some (k : Nat) (w : World) : (binOp .eql 52 (.map (some k)) (.map none)).run Try.prog w = .ok (.bool false) w := by kernel_rfl
theorem set_none (w : World) : (binOp .eql 52 (.map none) (.map none)).run Try.prog w = .ok (.bool true) w := by kernel_rfl
theorem mk_set : ∀ w : World, (Instr.makeMap 52 none).run Try.prog w = .ok (.map (some w.heap.size)) (w.alloc (.map #[] 0)) := fun w => run_makeMap _ w
theorem uni_l {k : Int} {y : Int} (h : ut k = y) (hp : 0 < y) : (TS.no.or (TS.one y)).l = (uni k).l := TS.l_ext fun x _ => by
  unfold uni
  rw [h]
  simp [TS.or, TS.no, TS.one, hp]
theorem uni_none {k : Int} (h : ut k = 0) : (uni k).l = [] := by
  unfold TS.l
  rw [List.filter_eq_nil_iff]
  intro x _
  unfold uni
  rw [h]
  simp
set_option maxHeartbeats 8000000 in
theorem universal_ok (w : World) (k : Int) :
    Calls Try.prog 41 #[.int .i64 k] w fun e w' => ∃ p, e = .returned (.map p) ∧ TagsAt w' p (uni k) ∧ Below w.heap.size w w' := by
  have hmk := mk_set
  have HB0 := Lib.hid ((Below.refl w.heap.size w).alloc (Nat.le_refl _) (.map #[] 0))
  have HM := Lib.hid (SetAt.made w TS.no rfl)
  have HU := Lib.hid (show ∀ (y : Int) (w1 : World), ut k = y → 0 < y → SetAt w1 w.heap.size (TS.no.or (TS.one y)) → (w.alloc (.map #[] 0)).grownBy w1 (some w.heap.size) → TagsAt w1 (some w.heap.size) (uni k) ∧ Below w.heap.size w w1 from fun y w1 h1 h2 h3 h4 =>
    ⟨.inr ⟨_, rfl, h3.congr (uni_l h1 h2)⟩, HB0.out.grown h4 (by simp) (fun j hj => by cases hj; exact Nat.le_refl _)⟩)
  by_cases h1 : k = 1
  · subst h1
    go_enter Try.func41, Try.ntmps41
    go_wp2_with (refine wpList_insert_own rfl _ _ _ rfl w.heap.size TS.no rfl HM.out 1 (by unfold univ; simp) rfl rfl ?_; intro w1 hs1 hg1; have HS1 := Lib.hid hs1; have HG1 := Lib.hid hg1; clear hs1 hg1)
    go_ret
    exact ⟨_, rfl, HU.out 1 _ (by decide) (by decide) HS1.out HG1.out⟩
  by_cases h2 : k = 2
  · subst h2
    go_enter Try.func41, Try.ntmps41
    go_wp2_with (refine wpList_insert_own rfl _ _ _ rfl w.heap.size TS.no rfl HM.out 2 (by unfold univ; simp) rfl rfl ?_; intro w1 hs1 hg1; have HS1 := Lib.hid hs1; have HG1 := Lib.hid hg1; clear hs1 hg1)
    go_ret
    exact ⟨_, rfl, HU.out 2 _ (by decide) (by decide) HS1.out HG1.out⟩
  by_cases h5 : k = 5
  · subst h5
    go_enter Try.func41, Try.ntmps41
    go_wp2_with (refine wpList_insert_own rfl _ _ _ rfl w.heap.size TS.no rfl HM.out 3 (by unfold univ; simp) rfl rfl ?_; intro w1 hs1 hg1; have HS1 := Lib.hid hs1; have HG1 := Lib.hid hg1; clear hs1 hg1)
    go_ret
    exact ⟨_, rfl, HU.out 3 _ (by decide) (by decide) HS1.out HG1.out⟩
  by_cases h6 : k = 6
  · subst h6
    go_enter Try.func41, Try.ntmps41
    go_wp2_with (refine wpList_insert_own rfl _ _ _ rfl w.heap.size TS.no rfl HM.out 4 (by unfold univ; simp) rfl rfl ?_; intro w1 hs1 hg1; have HS1 := Lib.hid hs1; have HG1 := Lib.hid hg1; clear hs1 hg1)
    go_ret
    exact ⟨_, rfl, HU.out 4 _ (by decide) (by decide) HS1.out HG1.out⟩
  by_cases h4 : k = 4
  · subst h4
    go_enter Try.func41, Try.ntmps41
    go_wp2_with (refine wpList_insert_own rfl _ _ _ rfl w.heap.size TS.no rfl HM.out 5 (by unfold univ; simp) rfl rfl ?_; intro w1 hs1 hg1; have HS1 := Lib.hid hs1; have HG1 := Lib.hid hg1; clear hs1 hg1)
    go_ret
    exact ⟨_, rfl, HU.out 5 _ (by decide) (by decide) HS1.out HG1.out⟩
  by_cases h3 : k = 3
  · subst h3
    go_enter Try.func41, Try.ntmps41
    go_wp2_with (refine wpList_insert_own rfl _ _ _ rfl w.heap.size TS.no rfl HM.out 10 (by unfold univ; simp) rfl rfl ?_; intro w1 hs1 hg1; have HS1 := Lib.hid hs1; have HG1 := Lib.hid hg1; clear hs1 hg1)
    go_ret
    exact ⟨_, rfl, HU.out 10 _ (by decide) (by decide) HS1.out HG1.out⟩
  by_cases h8 : k = 8
  · subst h8
    go_enter Try.func41, Try.ntmps41
    go_wp2_with (refine wpList_insert_own rfl _ _ _ rfl w.heap.size TS.no rfl HM.out 16 (by unfold univ; simp) rfl rfl ?_; intro w1 hs1 hg1; have HS1 := Lib.hid hs1; have HG1 := Lib.hid hg1; clear hs1 hg1)
    go_ret
    exact ⟨_, rfl, HU.out 16 _ (by decide) (by decide) HS1.out HG1.out⟩
  by_cases h9 : k = 9
  · subst h9
    go_enter Try.func41, Try.ntmps41
    go_wp2_with (refine wpList_insert_own rfl _ _ _ rfl w.heap.size TS.no rfl HM.out 16 (by unfold univ; simp) rfl rfl ?_; intro w1 hs1 hg1; have HS1 := Lib.hid hs1; have HG1 := Lib.hid hg1; clear hs1 hg1)
    go_ret
    exact ⟨_, rfl, HU.out 16 _ (by decide) (by decide) HS1.out HG1.out⟩
  by_cases h7 : k = 7
  · subst h7
    go_enter Try.func41, Try.ntmps41
    go_wp2_with (refine wpList_insert_own rfl _ _ _ rfl w.heap.size TS.no rfl HM.out 22 (by unfold univ; simp) rfl rfl ?_; intro w1 hs1 hg1; have HS1 := Lib.hid hs1; have HG1 := Lib.hid hg1; clear hs1 hg1)
    go_ret
    exact ⟨_, rfl, HU.out 22 _ (by decide) (by decide) HS1.out HG1.out⟩
  have q1 : (k == 1) = false := beq_eq_false_iff_ne.2 h1
  have q2 : (k == 2) = false := beq_eq_false_iff_ne.2 h2
  have q3 : (k == 5) = false := beq_eq_false_iff_ne.2 h5
  have q4 : (k == 6) = false := beq_eq_false_iff_ne.2 h6
  have q5 : (k == 4) = false := beq_eq_false_iff_ne.2 h4
  have q6 : (k == 3) = false := beq_eq_false_iff_ne.2 h3
  have q7 : (k == 8) = false := beq_eq_false_iff_ne.2 h8
  have q8 : (k == 9) = false := beq_eq_false_iff_ne.2 h9
  have q9 : (k == 7) = false := beq_eq_false_iff_ne.2 h7
  have HN := Lib.hid (show ut k = 0 by unfold ut; rw [if_neg h1, if_neg h2, if_neg h3, if_neg h4, if_neg h5, if_neg h6, if_neg h7, if_neg h8, if_neg h9])
  clear h1 h2 h3 h4 h5 h6 h7 h8 h9
  go_enter Try.func41, Try.ntmps41
  go_wp2_with fail
  go_ret
  exact ⟨none, rfl, .inl ⟨rfl, uni_none HN.out⟩, Below.refl _ _⟩
theorem own_frozen {w : World} {B n cap g : Nat} {e : TypeId} {xs : List Value} (h : w.ownsRow B e 1 (.slice (some ⟨g, 0, none⟩) n cap) n xs) (j : Nat) : w.frozen? ⟨g, j, none⟩ = false := by
  obtain ⟨_, h2 | ⟨g', cap', cur, hv, _, hg, _⟩⟩ := h
  · cases h2.1
  · cases hv
    simp [World.frozen?, hg]
set_option maxHeartbeats 4000000 in
theorem auto_ok (B : Nat) (w : World) (b : Nat) (l : EL) (G : GL) (V : GV) (n c : Nat) (h : GAt B w b l G V) (hB : B ≤ w.heap.size) (hn : n < G.m) (hl : G.live l n) (hQ : G.Q.length ≤ 1000000000) (hc : c ≤ 1000000000) (hm : G.most ≤ 1000000000) :
    Calls Try.prog 42 #[.pointer (some ⟨b, 0, none⟩), .int .i64 (n : Nat), .int .i64 (c : Nat)] w fun e w' => e = .returned (.tuple #[]) ∧ ∃ V', GAt B w' b l ((if 0 < c then G.give n (TS.one 1000) else G).top c) V' ∧ Mv V.own w V'.own w' := by
  have hmx : max (G.most : Int) (c : Int) = ((max G.most c : Nat) : Int) := by omega
  by_cases h0 : 0 < c
  · rw [if_pos h0]
    have q1 : decide ((0 : Int) < (c : Int)) = true := decide_eq_true (by omega)
    have q1n : decide (0 < c) = true := decide_eq_true h0
    have hmk := mk_set
    have HB0 := Lib.hid ((Below.refl w.heap.size w).alloc (Nat.le_refl _) (.map #[] 0))
    have HM := Lib.hid (SetAt.made w TS.no rfl)
    have HH := Lib.hid h
    have HG := Lib.hid (fun (w1 : World) (hb : Below w.heap.size w w1) (ht : TagsAt w1 (some w.heap.size) (TS.one 1000)) => And.intro (h.of_below hb).2 (give_ok B w1 b l G V n (some w.heap.size) (TS.one 1000) (h.of_below hb).1 (Nat.le_trans hB hb.size) hn hl ht hQ))
    clear h hl hQ
    go_enter Try.func42, Try.ntmps42
    go_wp2_with (refine wpList_insert_own rfl _ _ _ rfl w.heap.size TS.no rfl HM.out 1000 (by unfold univ; simp) rfl rfl ?_; intro w1 hs1 hg1; have HS1 := Lib.hid hs1; have HG1 := Lib.hid hg1; clear hs1 hg1)
    obtain ⟨hmv1, hcall⟩ := HG.out w1 (HB0.out.grown HG1.out (by simp) (fun j hj => by cases hj; exact Nat.le_refl _)) (.inr ⟨_, rfl, HS1.out.congr (TS.l_ext fun x _ => by simp [TS.or, TS.no])⟩)
    have HMV1 := Lib.hid hmv1
    clear hmv1
    refine hcall.mono ?_
    rintro e w2 ⟨rfl, V2, h2, hm2⟩
    have HA2 := Lib.hid h2
    have HMV2 := Lib.hid hm2
    have c6 := h2.bx.cell 6 (v := .int .i64 (G.most : Nat)) rfl
    have f6 := frozen_gx h2.bx 6
    clear h2 hm2 hcall
    go_wp2_with fail
    go_end0
    obtain ⟨h5, h6⟩ := HA2.out.setMost (max G.most c)
    exact ⟨rfl, V2, h5, HMV1.out.trans (HMV2.out.trans h6)⟩
  · rw [if_neg h0]
    have q1 : decide ((0 : Int) < (c : Int)) = false := decide_eq_false (by omega)
    have q1n : decide (0 < c) = false := decide_eq_false h0
    have HH := Lib.hid h
    have c6 := h.bx.cell 6 (v := .int .i64 (G.most : Nat)) rfl
    have f6 := frozen_gx h.bx 6
    clear h
    go_enter Try.func42, Try.ntmps42
    go_wp2_with fail
    go_end0
    obtain ⟨h5, h6⟩ := HH.out.setMost (max G.most c)
    exact ⟨rfl, V, h5, h6⟩
set_option maxHeartbeats 4000000 in
theorem reach_ok (B : Nat) (w : World) (b : Nat) (l : EL) (G : GL) (V : GV) (p : Nat) (h : GAt B w b l G V) (hB : B ≤ w.heap.size) (hp : p < G.m) (hpl : p < l.n) (hS : ¬ G.live l p → (G.S p).l = []) (hR : G.R.length ≤ 1000000000) :
    Calls Try.prog 14 #[.pointer (some ⟨b, 0, none⟩), .int .i64 (p : Nat)] w fun e w' => e = .returned (.tuple #[]) ∧ ∃ V', GAt B w' b l (G.reach p) V' ∧ Mv V.own w V'.own w' := by
  obtain ⟨i0, hi0, hz0, hz1, hz2⟩ := info_parts info_i64
  obtain ⟨sg, scap, hsv, hsB, hslt, hix, hcell⟩ := own_read 57 52 Try.underlying57 (by kernel_rfl) Try.sizeOf52 h.s hp
  have c3 := h.bx.cell 3 (v := .slice (some ⟨sg, 0, none⟩) G.m scap) (by rw [← hsv]; rfl)
  have cn := hcell p _ (range_at hp)
  by_cases hr : p ∈ G.R
  · obtain ⟨k0, hk0, ho0, hs0⟩ := (h.sets p hp).1 (.inl hr)
    rw [hk0] at cn
    have hno := set_some k0
    have HH := Lib.hid h
    clear h hs0 ho0 hcell
    go_enter Try.func14, Try.ntmps14
    go_wp2_with fail
    go_end0
    refine ⟨rfl, V, ?_, Mv.refl _ _⟩
    unfold GL.reach
    rw [if_pos hr]
    exact HH.out
  · have hnl : ¬ G.live l p := fun hl => hl.elim hr (fun h2 => by omega)
    rw [(h.sets p hp).2 hnl] at cn
    have hyes := set_none
    have hmk := mk_set
    have hs2 := h.s
    rw [hsv] at hs2
    have cn2 : ∀ o, (w.alloc o).cell? ⟨sg, p, none⟩ = some (.map none) := fun o => (World.cell?_of_block (w := w) (a := ⟨sg, p, none⟩) (Below.heap_alloc w o sg hslt)).trans cn
    have c3' : ∀ o, (w.alloc o).cell? ⟨b, 3, none⟩ = some (.slice (some ⟨sg, 0, none⟩) G.m scap) := fun o => (h.bx.alloc o).cell 3 (by rw [← hsv]; rfl)
    have fn2 : ∀ o, (w.alloc o).frozen? ⟨sg, p, none⟩ = false := fun o => own_frozen (World.ownsRow.alloc hs2 o) p
    obtain ⟨h1, hm1⟩ := h.newSet hB hsv hp (hS hnl)
    rw [World.setCell_alloc_past (o := .map #[] 0) (hn := hslt)] at h1 hm1
    have HSZ := Lib.hid (show ((w.setCell ⟨sg, p, none⟩ (.map (some w.heap.size))).alloc (.map #[] 0)).heap.size = w.heap.size + 1 by simp [World.setCell])
    have H1 := Lib.hid h1
    have HM1 := Lib.hid hm1
    clear h h1 hm1 hcell hs2 hS
    go_enter Try.func14, Try.ntmps14
    go_upto_region 2 with fail
    generalize (w.setCell ⟨sg, p, none⟩ (.map (some w.heap.size))).alloc (.map #[] 0) = W1 at *
    have HA := Lib.hid (fun o => H1.out.alloc o)
    have c2 := H1.out.bx.cell 2 (v := V.rv) rfl
    have HLO := Lib.hid (fun k hk => (H1.out.lo k hk).2)
    have hB1 : B ≤ W1.heap.size := by rw [HSZ.out]; omega
    clear c3 cn cn2 c3' fn2 hix
    go_wp2_with (at_builtin; refine wpList_append_lies _ rfl _ _ 37 rfl B 3 i0 (.int .i64 0) 1 8 Try.underlying37 hi0 hz0 hz1 hz2 rfl (by decide) V.rv G.R.length (G.R.map nv) rfl (HA.out _).r ⟨W1.heap.size, 0, none⟩ 1 1 [nv p] rfl rfl (cell_one_new W1 (nv p) _) (nv_one p) (by decide) (by unfold maxLen; omega) (by omega) (by simp; omega) (W1.heap.size + 1) (by simp) ?_; intro g cap w4 ho4 hg4 hat4 hlt4; have HO4 := Lib.hid ho4; have HG4 := Lib.hid hg4; have HT4 := Lib.hid hat4; have HL4 := Lib.hid hlt4; have hbx4 := (HA.out _).grown hg4 (fun k hk => by rw [(HA.out (.cells #[] 0)).ro k hk]; nofun); have c5' := hbx4.cell 2 (v := V.rv) rfl; have f5 := frozen_gx hbx4 2; clear ho4 hg4 hat4 hlt4 hbx4)
    go_end0
    have hgr := Grew.of (own := setOwn V.own w.heap.size (.s p)) (ρ := .rr) HG4.out (HA.out (.cells #[] 0)).ro (by rcases HT4.out with h | h; exact .inl h; exact .inr (by rw [h]; simp)) HL4.out
    obtain ⟨h5, h6⟩ := (HA.out _).pushR (by simp; omega) hgr (fun k hk => by cases hk; rfl) HO4.out
    have hlv : ∀ n, n < G.m → ((G.live l n ∨ n = p) ↔ GL.live l { G with R := G.R ++ [p] } n) := fun n hn => by
      unfold GL.live
      constructor
      · rintro ((h1 | h1) | h1)
        · exact .inl (List.mem_append_left _ h1)
        · exact .inr h1
        · exact .inl (List.mem_append_right _ (by rw [h1]; exact List.mem_cons_self))
      · rintro (h1 | h1)
        · rcases List.mem_append.1 h1 with h2 | h2
          · exact .inl (.inl h2)
          · exact .inr (List.mem_singleton.1 h2)
        · exact .inl (.inr h1)
    unfold GL.reach
    rw [if_neg hr]
    exact ⟨rfl, _, h5.live_eq hlv, HM1.out.trans ((Mv.alloc _ _ _ HLO.out).trans h6)⟩
end Go.Proofs.Ytecedbjkebdeaaa
