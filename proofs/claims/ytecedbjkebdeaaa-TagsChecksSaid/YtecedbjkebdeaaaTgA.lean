/-
  Package tags: 'add' of a graph.
-/
import Derived.Test.YtecedbjkebdeaaaTgA0
import Derived.Test.YtecedbjkebdeaaaTgI
namespace Go.Proofs.Ytecedbjkebdeaaa
open Go.RowKit Go.BigFrame Go.Maps Go.WideElems Go.ChangeMaps Go.MapKept Go.Shelf
set_option linter.unusedVariables false
set_option linter.unusedSimpArgs false
set_option maxRecDepth 100000

theorem map_one (k : Nat) : ∀ u ∈ [Value.map (some k)], u.oneCell' = true := by intro u hu; rw [List.mem_singleton] at hu; subst hu; rfl
theorem nil_one : ∀ u ∈ [Value.slice none 0 0], u.oneCell' = true := by intro u hu; rw [List.mem_singleton] at hu; subst hu; rfl
theorem bs_set (k : Nat) (X : World) : (Instr.buildSlice 57 1 #[(0, .map (some k))]).run Try.prog X = .ok (.slice (some ⟨X.heap.size, 0, none⟩) 1 1) (X.alloc (.cells #[.map (some k)] 52)) := by kernel_rfl
theorem bs_nil (X : World) : (Instr.buildSlice 58 1 #[(0, .slice none 0 0)]).run Try.prog X = .ok (.slice (some ⟨X.heap.size, 0, none⟩) 1 1) (X.alloc (.cells #[.slice none 0 0] 37)) := by kernel_rfl
theorem phi_congr {S S' : Nat → TS} : ∀ {m : Nat}, (∀ k, k < m → S k = S' k) → phi S m = phi S' m
  | 0, _ => rfl
  | m + 1, h => by
    have h1 := phi_congr (m := m) (fun k hk => h k (by omega))
    unfold phi
    rw [h1, h m (by omega)]
theorem GI.add {l : EL} {Z : Int → Prop} {D : Nat → Bool × TT} {G : GL} {c : Nat} (h : GI l Z D G c) {a : Bool} {t : TT} (hm : G.m < 1000000) : GI l Z (fun k => if k = G.m then (a, t) else D k) G.add c :=
  ⟨GL.add_ok h.ok a t, GL.add_wait h.wait, by
    have h1 := h.left
    unfold GL.left at h1 ⊢
    show phi (fun k => if k = G.m then TS.no else G.S k) (G.m + 1) + G.Q.length ≤ 9 * (G.m + 1)
    have h2 : phi (fun k => if k = G.m then TS.no else G.S k) G.m = phi G.S G.m := phi_congr fun k hk => if_neg (by omega)
    unfold phi
    rw [h2]
    omega, hm, h.most, fun p => by
    show (if p = G.m then [] else G.E p).length ≤ c
    split
    · exact Nat.zero_le _
    · exact h.el p⟩
theorem new_obj (X : World) (o : Obj) : ∃ X1, X1 = X.alloc o ∧ Below X.heap.size X X1 ∧ X1.heap.size = X.heap.size + 1 ∧ X1.heap[X.heap.size]? = some o :=
  ⟨_, rfl, (Below.refl X.heap.size X).alloc (Nat.le_refl _) o, by simp, heap_alloc_new X o⟩
theorem lt_of_at {X : World} {k : Nat} {o : Obj} (h : X.heap[k]? = some o) : k < X.heap.size := (Array.getElem?_eq_some_iff.1 h).1
theorem cell_in {X : World} {g : Nat} {v : Value} {t : TypeId} (h : X.heap[g]? = some (.cells #[v] t)) : ∀ j u, [v][j]? = some u → X.cell? ((⟨g, 0, none⟩ : Addr).add j) = some u := fun j u hu => by
  have h1 := Bx.cell (w := X) (g := g) (cs := #[v]) (t := t) h j (v := u) (by simpa using hu)
  rw [Addr.add_mid, Nat.zero_add]
  exact h1
set_option maxHeartbeats 16000000 in
theorem gadd_ok (l : EL) (Z : Int → Prop) (D : Nat → Bool × TT) (B : Nat) (w : World) (b : Nat) (G : GL) (V : GV) (a : Bool) (t : TT) (c : Nat) (hB : B ≤ w.heap.size) (hl : EOk B w l) (hG : GAt B w b l G V) (ht : TIn B w t) (hm : G.m < 1000000) (hI : GI l Z D G c) (hw : t.wid ≤ 10000) (hZ : ∀ x, Tg l a t x → Z x) (hc : c + t.wid ≤ 1000000000) :
    Calls Try.prog 19 #[.pointer (some ⟨b, 0, none⟩), .bool a, .agg t.cells.toArray] w fun e w' => e = .returned (.int .i64 (G.m : Nat)) ∧ ∃ G' V', GAt B w' b l G' V' ∧ Mv V.own w V'.own w' ∧ GI l Z (fun k => if k = G.m then (a, t) else D k) G' (c + t.wid) ∧ GExt G.add G' ∧ Req l G' G.m a t := by
  obtain ⟨i1, hi1, hz1, hy1, hb1⟩ := info_parts info_set
  obtain ⟨i2, hi2, hz2, hy2, hb2⟩ := info_parts info_ints
  obtain ⟨m, hmm⟩ : ∃ m, G.m = m := ⟨_, rfl⟩
  have HMM := Lib.hid hmm
  have hG1 : GAt B (w.alloc (.cells t.cells.toArray 35)) b l G V := GAtL.alloc hG _
  have HMW := Lib.hid (Mv.alloc V.own w (.cells t.cells.toArray 35) (fun k hk => (hG.lo k hk).2))
  have hbx := hG1.bx
  have hlo : ∀ k, V.own k ≠ .no → k < w.heap.size := fun _ h => (hG.lo _ h).2
  obtain ⟨sa, sc, hsv⟩ := own_slice hG.s
  obtain ⟨va, vc, hvv⟩ := own_slice hG.v
  rw [hmm] at hsv hvv hm
  have c3 := hbx.cell 3 (v := .slice sa m sc) (by rw [← hsv]; rfl)
  have c4 := hbx.cell 4 (v := .slice va m vc) (by rw [← hvv]; rfl)
  have HG1 := Lib.hid hG1
  have HIN := Lib.hid hI
  have hB1 : B ≤ (w.alloc (.cells t.cells.toArray 35)).heap.size := by simp; omega
  have HTX := Lib.hid (Bx.new w t.cells.toArray 35)
  have HB1 := Lib.hid (show Below w.heap.size w (w.alloc (.cells t.cells.toArray 35)) from (Below.refl w.heap.size w).alloc (Nat.le_refl _) _)
  have hmk := mk_set
  have HSV := Lib.hid hsv
  have HVV := Lib.hid hvv
  have HEL := Lib.hid hl
  have HTI := Lib.hid ht
  have HZZ := Lib.hid hZ
  have hblt := hG.bx.lt
  have hwb : (w.alloc (.cells t.cells.toArray 35)).heap.size = w.heap.size + 1 := by simp
  clear hG hG1 hl ht hbx hsv hvv hI hZ
  have HWB := Lib.hid hwb
  have HNO := Lib.hid hlo
  clear hlo
  clear hwb
  go_enter Try.func19, Try.ntmps19
  go_wp2_with fail
  obtain ⟨W, hW⟩ : ∃ W, w.alloc (.cells t.cells.toArray 35) = W := ⟨_, rfl⟩
  rw [hW] at HG1 HMW c3 c4 hB1 HTX HB1 HWB ⊢
  clear hW
  go_cut [] from 13 to 31 (fun wx => ∃ V', GAt B wx b l G.add V' ∧ Mv V.own W V'.own wx)
  case first =>
    have HGX := Lib.hid (show GAt B W.drew b l G V from GAtL.drew HG1.out)
    refine wp_region_any (by kernel_rfl) ?_
    change wpAny _ _ _ _ _ _ _ W.drew
    have hS0 : W.drew.cell? ⟨b, 3, none⟩ = some (.slice sa m sc) ∧ W.drew.cell? ⟨b, 4, none⟩ = some (.slice va m vc) := ⟨c3, c4⟩
    have hBX : B ≤ W.drew.heap.size := hB1
    have HMX := Lib.hid (Mv.drew V.own W)
    generalize W.drew = X0 at *
    have hbX := HGX.out.bx.lt
    have HS := Lib.hid (show ∀ X : World, X.heap[b]? = X0.heap[b]? → (X.cell? ⟨b, 3, none⟩ = some (.slice sa m sc) ∧ X.cell? ⟨b, 4, none⟩ = some (.slice va m vc)) from fun X h => ⟨(World.cell?_of_block (w := X0) (a := ⟨b, 3, none⟩) h).trans hS0.1, (World.cell?_of_block (w := X0) (a := ⟨b, 4, none⟩) h).trans hS0.2⟩)
    have HFIN := Lib.hid (show ∀ (k gA capA gB capB : Nat) (X : World), AddX B X0 G V k gA capA gB capB X → ∃ V', GAt B ((X.setCell ⟨b, 3, none⟩ (.slice (some ⟨gA, 0, none⟩) (m + 1) capA)).setCell ⟨b, 4, none⟩ (.slice (some ⟨gB, 0, none⟩) (m + 1) capB)) b l G.add V' ∧ Mv V.own W V'.own ((X.setCell ⟨b, 3, none⟩ (.slice (some ⟨gA, 0, none⟩) (m + 1) capA)).setCell ⟨b, 4, none⟩ (.slice (some ⟨gB, 0, none⟩) (m + 1) capB)) from fun k gA capA gB capB X h => by
      obtain ⟨V', h1, h2⟩ := h.done HGX.out hBX HIN.out.ok.ln
      rw [HMM.out] at h1 h2
      exact ⟨V', h1, HMX.out.trans h2⟩)
    have gX0 := Below.refl X0.heap.size X0
    have hnbA : some b ≠ (Value.slice sa m sc).ownBlock := fun e => by
      have h1 := HGX.out.so b (by rw [HSV.out]; exact e.symm)
      rw [HGX.out.ob] at h1
      cases h1
    have hnbB : some b ≠ (Value.slice va m vc).ownBlock := fun e => by
      have h1 := HGX.out.vo b (by rw [HVV.out]; exact e.symm)
      rw [HGX.out.ob] at h1
      cases h1
    have HNS := Lib.hid (show ∀ k, X0.heap.size ≤ k → some k ≠ (Value.slice sa m sc).ownBlock from fun k hk e => by
      have h1 := HGX.out.so k (by rw [HSV.out]; exact e.symm)
      have h2 := (HGX.out.lo k (by rw [h1]; nofun)).2
      omega)
    have HFB := Lib.hid (show ∀ X : World, X.heap[b]? = X0.heap[b]? → X.frozen? ⟨b, 3, none⟩ = false ∧ X.frozen? ⟨b, 4, none⟩ = false from fun X h => ⟨frozen_gx (h.trans HGX.out.bx) 3, frozen_gx (h.trans HGX.out.bx) 4⟩)
    have HNA := Lib.hid (And.intro hnbA hnbB)
    clear hnbA hnbB
    refine wpAny_go 1 (.pointer (some ⟨b, 0, none⟩)) (some 14) #[false, true, false, false, false, false, false, false, false, false, false, false, false, false, false, false, false, false, false, false, false] rfl rfl (by kernel_rfl) (by kernel_rfl) (by kernel_rfl) (by kernel_rfl) (fun _ _ _ h => h) (Or.inl ⟨by rfl, fun X => by go_simp⟩) ?_
    refine wpAny_head (S := fun w' => w'.cell? ⟨b, 3, none⟩ = some (.slice sa m sc) ∧ w'.cell? ⟨b, 4, none⟩ = some (.slice va m vc)) (E := fun j => j == 1) 15 14 ⟨fun j hj => by rw [eq_of_beq hj]; decide, by kernel_rfl, by decide, by kernel_rfl, by kernel_rfl⟩ ?_
    simp only [tq_put, List.set_cons_succ, List.set_cons_zero]
    refine wpAnyT_go (E := fun j => j == 1) 0 (.pointer (some ⟨b, 0, none⟩)) (some 13) #[true, true, false, false, false, false, false, false, false, false, false, false, false, false, false, false, false, false, false, false, false] ⟨fun j hj => by rw [eq_of_beq hj]; decide, by kernel_rfl, by decide, by kernel_rfl, by kernel_rfl⟩ rfl rfl (by kernel_rfl) (by kernel_rfl) (by kernel_rfl) (by kernel_rfl) (by kernel_rfl) (fun _ _ _ h => h) (Or.inl ⟨by rfl, fun X hX => by go_simp⟩) hS0 ?_
    simp only [tq_put, List.set_cons_succ, List.set_cons_zero]
    refine wpAnyT_go (E := fun j => j == 1) 2 (.pointer (some ⟨b, 0, none⟩)) (some 15) #[true, true, true, false, false, false, false, false, false, false, false, false, false, false, false, false, false, false, false, false, false] ⟨fun j hj => by rw [eq_of_beq hj]; decide, by kernel_rfl, by decide, by kernel_rfl, by kernel_rfl⟩ rfl rfl (by kernel_rfl) (by kernel_rfl) (by kernel_rfl) (by kernel_rfl) (by kernel_rfl) (fun _ _ _ h => h) (Or.inl ⟨by rfl, fun X hX => by go_simp⟩) hS0 ?_
    simp only [tq_put, List.set_cons_succ, List.set_cons_zero]
    refine wpAnyT_go (E := fun j => j == 1) 3 (.pointer (some ⟨b, 0, none⟩)) (some 16) #[true, true, true, true, false, false, false, false, false, false, false, false, false, false, false, false, false, false, false, false, false] ⟨fun j hj => by rw [eq_of_beq hj]; decide, by kernel_rfl, by decide, by kernel_rfl, by kernel_rfl⟩ rfl rfl (by kernel_rfl) (by kernel_rfl) (by kernel_rfl) (by kernel_rfl) (by kernel_rfl) (fun _ _ _ h => h) (Or.inl ⟨by rfl, fun X hX => by go_simp⟩) hS0 ?_
    simp only [tq_put, List.set_cons_succ, List.set_cons_zero]
    refine wpAnyT_go (E := fun j => j == 1) 4 (.pointer (some ⟨b, 3, none⟩)) (some 17) #[true, true, true, true, true, false, false, false, false, false, false, false, false, false, false, false, false, false, false, false, false] ⟨fun j hj => by rw [eq_of_beq hj]; decide, by kernel_rfl, by decide, by kernel_rfl, by kernel_rfl⟩ rfl rfl (by kernel_rfl) (by kernel_rfl) (by kernel_rfl) (by kernel_rfl) (by kernel_rfl) (fun _ _ _ h => h) (Or.inl ⟨by rfl, fun X hX => by go_simp⟩) hS0 ?_
    simp only [tq_put, List.set_cons_succ, List.set_cons_zero]
    refine wpAnyT_go (E := fun j => j == 1) 5 (.slice sa m sc) (some 18) #[true, true, true, true, true, true, false, false, false, false, false, false, false, false, false, false, false, false, false, false, false] ⟨fun j hj => by rw [eq_of_beq hj]; decide, by kernel_rfl, by decide, by kernel_rfl, by kernel_rfl⟩ rfl rfl (by kernel_rfl) (by kernel_rfl) (by kernel_rfl) (by kernel_rfl) (by kernel_rfl) (fun _ _ _ h => h) (Or.inl ⟨by rfl, fun X hX => by obtain ⟨x3, x4⟩ := hX; go_simp⟩) hS0 ?_
    simp only [tq_put, List.set_cons_succ, List.set_cons_zero]
    refine wpAnyT_go (E := fun j => j == 1) 9 (.pointer (some ⟨b, 0, none⟩)) (some 22) #[true, true, true, true, true, true, false, false, false, true, false, false, false, false, false, false, false, false, false, false, false] ⟨fun j hj => by rw [eq_of_beq hj]; decide, by kernel_rfl, by decide, by kernel_rfl, by kernel_rfl⟩ rfl rfl (by kernel_rfl) (by kernel_rfl) (by kernel_rfl) (by kernel_rfl) (by kernel_rfl) (fun _ _ _ h => h) (Or.inl ⟨by rfl, fun X hX => by go_simp⟩) hS0 ?_
    simp only [tq_put, List.set_cons_succ, List.set_cons_zero]
    refine wpAnyT_go (E := fun j => j == 1) 10 (.pointer (some ⟨b, 0, none⟩)) (some 23) #[true, true, true, true, true, true, false, false, false, true, true, false, false, false, false, false, false, false, false, false, false] ⟨fun j hj => by rw [eq_of_beq hj]; decide, by kernel_rfl, by decide, by kernel_rfl, by kernel_rfl⟩ rfl rfl (by kernel_rfl) (by kernel_rfl) (by kernel_rfl) (by kernel_rfl) (by kernel_rfl) (fun _ _ _ h => h) (Or.inl ⟨by rfl, fun X hX => by go_simp⟩) hS0 ?_
    simp only [tq_put, List.set_cons_succ, List.set_cons_zero]
    refine wpAnyT_go (E := fun j => j == 1) 11 (.pointer (some ⟨b, 4, none⟩)) (some 24) #[true, true, true, true, true, true, false, false, false, true, true, true, false, false, false, false, false, false, false, false, false] ⟨fun j hj => by rw [eq_of_beq hj]; decide, by kernel_rfl, by decide, by kernel_rfl, by kernel_rfl⟩ rfl rfl (by kernel_rfl) (by kernel_rfl) (by kernel_rfl) (by kernel_rfl) (by kernel_rfl) (fun _ _ _ h => h) (Or.inl ⟨by rfl, fun X hX => by go_simp⟩) hS0 ?_
    simp only [tq_put, List.set_cons_succ, List.set_cons_zero]
    refine wpAnyT_go (E := fun j => j == 1) 12 (.slice va m vc) (some 25) #[true, true, true, true, true, true, false, false, false, true, true, true, true, false, false, false, false, false, false, false, false] ⟨fun j hj => by rw [eq_of_beq hj]; decide, by kernel_rfl, by decide, by kernel_rfl, by kernel_rfl⟩ rfl rfl (by kernel_rfl) (by kernel_rfl) (by kernel_rfl) (by kernel_rfl) (by kernel_rfl) (fun _ _ _ h => h) (Or.inl ⟨by rfl, fun X hX => by obtain ⟨x3, x4⟩ := hX; go_simp⟩) hS0 ?_
    simp only [tq_put, List.set_cons_succ, List.set_cons_zero]
    refine wpAnyT_two 6 13 #[true, true, true, true, true, true, true, false, false, true, true, true, true, false, false, false, false, false, false, false, false] #[true, true, true, true, true, true, false, false, false, true, true, true, true, true, false, false, false, false, false, false, false] (by kernel_rfl) (by kernel_rfl) (by kernel_rfl) (by decide) ?_ ?_
    ·
      obtain ⟨Y1, hY1, nY1, sY1, mY1⟩ := new_obj X0 (.map #[] 0)
      have gY1 : Below X0.heap.size X0 Y1 := gX0.trans (nY1.mono gX0.size)
      refine wpOp_go (w' := Y1) 6 (.map (some X0.heap.size)) (some 19) rfl rfl rfl (by rw [hY1]; simp [execOp, hmk, Result.andThen]) ?_
      refine ⟨HS.out Y1 ((gY1.block b hbX)), ?_⟩
      simp only [tq_put, List.set_cons_succ, List.set_cons_zero]
      refine wpAnyT_two 7 13 #[true, true, true, true, true, true, true, true, false, true, true, true, true, false, false, false, false, false, false, false, false] #[true, true, true, true, true, true, true, false, false, true, true, true, true, true, false, false, false, false, false, false, false] (by kernel_rfl) (by kernel_rfl) (by kernel_rfl) (by decide) ?_ ?_
      ·
        obtain ⟨Y2, hY2, nY2, sY2, mY2⟩ := new_obj Y1 (.cells #[.map (some X0.heap.size)] 52)
        have gY2 : Below X0.heap.size X0 Y2 := gY1.trans (nY2.mono gY1.size)
        refine wpOp_bs (w' := Y2) 7 57 (.tmp 19) (.map (some X0.heap.size)) (.slice (some ⟨Y1.heap.size, 0, none⟩) 1 1) (some 20) rfl rfl rfl rfl rfl (by rw [hY2]; exact (bs_set _ _)) ?_
        refine ⟨HS.out Y2 ((gY2.block b hbX)), ?_⟩
        simp only [tq_put, List.set_cons_succ, List.set_cons_zero]
        refine wpAnyT_two 8 13 #[true, true, true, true, true, true, true, true, true, true, true, true, true, false, false, false, false, false, false, false, false] #[true, true, true, true, true, true, true, true, false, true, true, true, true, true, false, false, false, false, false, false, false] (by kernel_rfl) (by kernel_rfl) (by kernel_rfl) (by decide) ?_ ?_
        ·
          have hmk2 : Y2.heap[X0.heap.size]? = some (.map #[] 0) := (nY2.block _ (lt_of_at mY1)).trans (mY1)
          have hta : Y2.heap[Y1.heap.size]? = some (.cells #[.map (some X0.heap.size)] 52) := mY2
          refine wpOp_law rfl (step_append_lies _ (by rfl) (.tmp 18) (.tmp 20) 57 (by rfl) B 52 i1 (.map none) 1 8 Try.underlying57 hi1 hz1 hy1 hb1 rfl (by decide) (.slice sa m sc) m (xsA G V) (by rfl) (by rw [← HSV.out, ← HMM.out]; exact rowA HGX.out gY2) ⟨Y1.heap.size, 0, none⟩ 1 1 [.map (some X0.heap.size)] (by rfl) rfl (cell_in hta) (map_one _) (by decide) (by unfold maxLen; omega) (by omega) (Nat.le_trans hBX gY2.size) Y2.heap.size rfl ?_)
          intro gA capA wA hoA hgA htA hlA
          have hwAb : wA.heap[b]? = X0.heap[b]? := (hgA.block b (Nat.lt_of_lt_of_le hbX gY2.size) HNA.out.1).trans (gY2.block b hbX)
          have hbA : b < wA.heap.size := Nat.lt_of_lt_of_le hbX (Nat.le_trans gY2.size hgA.size)
          have gwA := Below.refl wA.heap.size wA
          refine ⟨HS.out wA hwAb, ?_⟩
          change wpAnyT _ _ _ _ _ _ _ _ _ (Act.put _ (some 21) _) _
          simp only [tq_put, List.set_cons_succ, List.set_cons_zero]
          refine wpAnyT_one 13 #[true, true, true, true, true, true, true, true, true, true, true, true, true, true, false, false, false, false, false, false, false] (by kernel_rfl) (by kernel_rfl) (by decide) ?_
          obtain ⟨Y3, hY3, nY3, sY3, mY3⟩ := new_obj wA (.cells #[.slice none 0 0] 37)
          have gY3 : Below wA.heap.size wA Y3 := gwA.trans (nY3.mono gwA.size)
          refine wpOp_bs (w' := Y3) 13 58 (.const (.slice none 0 0)) (.slice none 0 0) (.slice (some ⟨wA.heap.size, 0, none⟩) 1 1) (some 26) rfl rfl rfl rfl rfl (by rw [hY3]; exact (bs_nil _)) ?_
          refine ⟨HS.out Y3 (((gY3.block b hbA).trans hwAb)), ?_⟩
          simp only [tq_put, List.set_cons_succ, List.set_cons_zero]
          refine wpAnyT_one 14 #[true, true, true, true, true, true, true, true, true, true, true, true, true, true, true, false, false, false, false, false, false] (by kernel_rfl) (by kernel_rfl) (by decide) ?_
          have htb : Y3.heap[wA.heap.size]? = some (.cells #[.slice none 0 0] 37) := mY3
          have hrB := rowB HGX.out gY2 (by rw [HSV.out]; exact hgA) gY3
          refine wpOp_law rfl (step_append_lies _ (by rfl) (.tmp 25) (.tmp 26) 58 (by rfl) B 37 i2 (.slice none 0 0) 1 24 Try.underlying58 hi2 hz2 hy2 hb2 rfl (by decide) (.slice va m vc) m (xsB G V) (by rfl) (by rw [← HVV.out, ← HMM.out]; exact hrB) ⟨wA.heap.size, 0, none⟩ 1 1 [.slice none 0 0] (by rfl) rfl (cell_in htb) nil_one (by decide) (by unfold maxLen; omega) (by omega) (Nat.le_trans hBX (Nat.le_trans gY2.size (Nat.le_trans hgA.size gY3.size))) Y3.heap.size rfl ?_)
          intro gB capB wB hoB hgB htB hlB
          have hwBb : wB.heap[b]? = X0.heap[b]? := (hgB.block b (Nat.lt_of_lt_of_le hbA gY3.size) HNA.out.2).trans ((gY3.block b hbA).trans hwAb)
          obtain ⟨hs3, hs4⟩ := HS.out wB hwBb
          refine ⟨⟨hs3, hs4⟩, ?_⟩
          change wpAnyT _ _ _ _ _ _ _ _ _ (Act.put _ (some 27) _) _
          simp only [tq_put, List.set_cons_succ, List.set_cons_zero]
          have HAX := Lib.hid (HFIN.out X0.heap.size gA capA gB capB wB (AddX.of HGX.out gY2 hmk2 (Nat.le_refl _) (by rw [HMM.out]; exact hoA) (by rw [HSV.out]; exact hgA) (by rw [HSV.out]; exact htA) hlA gY3 (by rw [HMM.out]; exact hoB) (by rw [HVV.out]; exact hgB) (by rw [HVV.out]; exact htB)))
          obtain ⟨fb3, fb4⟩ := HFB.out wB hwBb
          clear hoA hgA htA hoB hgB htB HS
          refine ⟨by kernel_rfl, ?_⟩
          simp only [List.drop_succ_cons, List.drop_zero]
          go_wp2_with fail
          go_meet
          exact HAX.out
        ·
          obtain ⟨Y3, hY3, nY3, sY3, mY3⟩ := new_obj Y2 (.cells #[.slice none 0 0] 37)
          have gY3 : Below X0.heap.size X0 Y3 := gY2.trans (nY3.mono gY2.size)
          refine wpOp_bs (w' := Y3) 13 58 (.const (.slice none 0 0)) (.slice none 0 0) (.slice (some ⟨Y2.heap.size, 0, none⟩) 1 1) (some 26) rfl rfl rfl rfl rfl (by rw [hY3]; exact (bs_nil _)) ?_
          refine ⟨HS.out Y3 ((gY3.block b hbX)), ?_⟩
          simp only [tq_put, List.set_cons_succ, List.set_cons_zero]
          refine wpAnyT_one 8 #[true, true, true, true, true, true, true, true, true, true, true, true, true, true, false, false, false, false, false, false, false] (by kernel_rfl) (by kernel_rfl) (by decide) ?_
          have hmk2 : Y3.heap[X0.heap.size]? = some (.map #[] 0) := (nY3.block _ (lt_of_at ((nY2.block _ (lt_of_at mY1)).trans mY1))).trans ((nY2.block _ (lt_of_at mY1)).trans (mY1))
          have hta : Y3.heap[Y1.heap.size]? = some (.cells #[.map (some X0.heap.size)] 52) := (nY3.block _ (lt_of_at mY2)).trans (mY2)
          refine wpOp_law rfl (step_append_lies _ (by rfl) (.tmp 18) (.tmp 20) 57 (by rfl) B 52 i1 (.map none) 1 8 Try.underlying57 hi1 hz1 hy1 hb1 rfl (by decide) (.slice sa m sc) m (xsA G V) (by rfl) (by rw [← HSV.out, ← HMM.out]; exact rowA HGX.out gY3) ⟨Y1.heap.size, 0, none⟩ 1 1 [.map (some X0.heap.size)] (by rfl) rfl (cell_in hta) (map_one _) (by decide) (by unfold maxLen; omega) (by omega) (Nat.le_trans hBX gY3.size) Y3.heap.size rfl ?_)
          intro gA capA wA hoA hgA htA hlA
          have hwAb : wA.heap[b]? = X0.heap[b]? := (hgA.block b (Nat.lt_of_lt_of_le hbX gY3.size) HNA.out.1).trans (gY3.block b hbX)
          have hbA : b < wA.heap.size := Nat.lt_of_lt_of_le hbX (Nat.le_trans gY3.size hgA.size)
          have gwA := Below.refl wA.heap.size wA
          refine ⟨HS.out wA hwAb, ?_⟩
          change wpAnyT _ _ _ _ _ _ _ _ _ (Act.put _ (some 21) _) _
          simp only [tq_put, List.set_cons_succ, List.set_cons_zero]
          refine wpAnyT_one 14 #[true, true, true, true, true, true, true, true, true, true, true, true, true, true, true, false, false, false, false, false, false] (by kernel_rfl) (by kernel_rfl) (by decide) ?_
          have htb0 : Y3.heap[Y2.heap.size]? = some (.cells #[.slice none 0 0] 37) := mY3
          have htb : wA.heap[Y2.heap.size]? = some (.cells #[.slice none 0 0] 37) := (hgA.block _ ((Array.getElem?_eq_some_iff.1 htb0).1) (HNS.out _ gY2.size)).trans htb0
          have hrB := rowB HGX.out gY3 (by rw [HSV.out]; exact hgA) gwA
          refine wpOp_law rfl (step_append_lies _ (by rfl) (.tmp 25) (.tmp 26) 58 (by rfl) B 37 i2 (.slice none 0 0) 1 24 Try.underlying58 hi2 hz2 hy2 hb2 rfl (by decide) (.slice va m vc) m (xsB G V) (by rfl) (by rw [← HVV.out, ← HMM.out]; exact hrB) ⟨Y2.heap.size, 0, none⟩ 1 1 [.slice none 0 0] (by rfl) rfl (cell_in htb) nil_one (by decide) (by unfold maxLen; omega) (by omega) (Nat.le_trans hBX (Nat.le_trans gY3.size (Nat.le_trans hgA.size gwA.size))) wA.heap.size rfl ?_)
          intro gB capB wB hoB hgB htB hlB
          have hwBb : wB.heap[b]? = X0.heap[b]? := (hgB.block b (Nat.lt_of_lt_of_le hbA gwA.size) HNA.out.2).trans ((gwA.block b hbA).trans hwAb)
          obtain ⟨hs3, hs4⟩ := HS.out wB hwBb
          refine ⟨⟨hs3, hs4⟩, ?_⟩
          change wpAnyT _ _ _ _ _ _ _ _ _ (Act.put _ (some 27) _) _
          simp only [tq_put, List.set_cons_succ, List.set_cons_zero]
          have HAX := Lib.hid (HFIN.out X0.heap.size gA capA gB capB wB (AddX.of HGX.out gY3 hmk2 (Nat.le_refl _) (by rw [HMM.out]; exact hoA) (by rw [HSV.out]; exact hgA) (by rw [HSV.out]; exact htA) hlA gwA (by rw [HMM.out]; exact hoB) (by rw [HVV.out]; exact hgB) (by rw [HVV.out]; exact htB)))
          obtain ⟨fb3, fb4⟩ := HFB.out wB hwBb
          clear hoA hgA htA hoB hgB htB HS
          refine ⟨by kernel_rfl, ?_⟩
          simp only [List.drop_succ_cons, List.drop_zero]
          go_wp2_with fail
          go_meet
          exact HAX.out
      ·
        obtain ⟨Y2, hY2, nY2, sY2, mY2⟩ := new_obj Y1 (.cells #[.slice none 0 0] 37)
        have gY2 : Below X0.heap.size X0 Y2 := gY1.trans (nY2.mono gY1.size)
        refine wpOp_bs (w' := Y2) 13 58 (.const (.slice none 0 0)) (.slice none 0 0) (.slice (some ⟨Y1.heap.size, 0, none⟩) 1 1) (some 26) rfl rfl rfl rfl rfl (by rw [hY2]; exact (bs_nil _)) ?_
        refine ⟨HS.out Y2 ((gY2.block b hbX)), ?_⟩
        simp only [tq_put, List.set_cons_succ, List.set_cons_zero]
        refine wpAnyT_one 7 #[true, true, true, true, true, true, true, true, false, true, true, true, true, true, false, false, false, false, false, false, false] (by kernel_rfl) (by kernel_rfl) (by decide) ?_
        obtain ⟨Y3, hY3, nY3, sY3, mY3⟩ := new_obj Y2 (.cells #[.map (some X0.heap.size)] 52)
        have gY3 : Below X0.heap.size X0 Y3 := gY2.trans (nY3.mono gY2.size)
        refine wpOp_bs (w' := Y3) 7 57 (.tmp 19) (.map (some X0.heap.size)) (.slice (some ⟨Y2.heap.size, 0, none⟩) 1 1) (some 20) rfl rfl rfl rfl rfl (by rw [hY3]; exact (bs_set _ _)) ?_
        refine ⟨HS.out Y3 ((gY3.block b hbX)), ?_⟩
        simp only [tq_put, List.set_cons_succ, List.set_cons_zero]
        refine wpAnyT_one 8 #[true, true, true, true, true, true, true, true, true, true, true, true, true, true, false, false, false, false, false, false, false] (by kernel_rfl) (by kernel_rfl) (by decide) ?_
        have hmk2 : Y3.heap[X0.heap.size]? = some (.map #[] 0) := (nY3.block _ (lt_of_at ((nY2.block _ (lt_of_at mY1)).trans mY1))).trans ((nY2.block _ (lt_of_at mY1)).trans (mY1))
        have hta : Y3.heap[Y2.heap.size]? = some (.cells #[.map (some X0.heap.size)] 52) := mY3
        refine wpOp_law rfl (step_append_lies _ (by rfl) (.tmp 18) (.tmp 20) 57 (by rfl) B 52 i1 (.map none) 1 8 Try.underlying57 hi1 hz1 hy1 hb1 rfl (by decide) (.slice sa m sc) m (xsA G V) (by rfl) (by rw [← HSV.out, ← HMM.out]; exact rowA HGX.out gY3) ⟨Y2.heap.size, 0, none⟩ 1 1 [.map (some X0.heap.size)] (by rfl) rfl (cell_in hta) (map_one _) (by decide) (by unfold maxLen; omega) (by omega) (Nat.le_trans hBX gY3.size) Y3.heap.size rfl ?_)
        intro gA capA wA hoA hgA htA hlA
        have hwAb : wA.heap[b]? = X0.heap[b]? := (hgA.block b (Nat.lt_of_lt_of_le hbX gY3.size) HNA.out.1).trans (gY3.block b hbX)
        have hbA : b < wA.heap.size := Nat.lt_of_lt_of_le hbX (Nat.le_trans gY3.size hgA.size)
        have gwA := Below.refl wA.heap.size wA
        refine ⟨HS.out wA hwAb, ?_⟩
        change wpAnyT _ _ _ _ _ _ _ _ _ (Act.put _ (some 21) _) _
        simp only [tq_put, List.set_cons_succ, List.set_cons_zero]
        refine wpAnyT_one 14 #[true, true, true, true, true, true, true, true, true, true, true, true, true, true, true, false, false, false, false, false, false] (by kernel_rfl) (by kernel_rfl) (by decide) ?_
        have htb0 : Y3.heap[Y1.heap.size]? = some (.cells #[.slice none 0 0] 37) := (nY3.block _ (lt_of_at mY2)).trans (mY2)
        have htb : wA.heap[Y1.heap.size]? = some (.cells #[.slice none 0 0] 37) := (hgA.block _ ((Array.getElem?_eq_some_iff.1 htb0).1) (HNS.out _ gY1.size)).trans htb0
        have hrB := rowB HGX.out gY3 (by rw [HSV.out]; exact hgA) gwA
        refine wpOp_law rfl (step_append_lies _ (by rfl) (.tmp 25) (.tmp 26) 58 (by rfl) B 37 i2 (.slice none 0 0) 1 24 Try.underlying58 hi2 hz2 hy2 hb2 rfl (by decide) (.slice va m vc) m (xsB G V) (by rfl) (by rw [← HVV.out, ← HMM.out]; exact hrB) ⟨Y1.heap.size, 0, none⟩ 1 1 [.slice none 0 0] (by rfl) rfl (cell_in htb) nil_one (by decide) (by unfold maxLen; omega) (by omega) (Nat.le_trans hBX (Nat.le_trans gY3.size (Nat.le_trans hgA.size gwA.size))) wA.heap.size rfl ?_)
        intro gB capB wB hoB hgB htB hlB
        have hwBb : wB.heap[b]? = X0.heap[b]? := (hgB.block b (Nat.lt_of_lt_of_le hbA gwA.size) HNA.out.2).trans ((gwA.block b hbA).trans hwAb)
        obtain ⟨hs3, hs4⟩ := HS.out wB hwBb
        refine ⟨⟨hs3, hs4⟩, ?_⟩
        change wpAnyT _ _ _ _ _ _ _ _ _ (Act.put _ (some 27) _) _
        simp only [tq_put, List.set_cons_succ, List.set_cons_zero]
        have HAX := Lib.hid (HFIN.out X0.heap.size gA capA gB capB wB (AddX.of HGX.out gY3 hmk2 (Nat.le_refl _) (by rw [HMM.out]; exact hoA) (by rw [HSV.out]; exact hgA) (by rw [HSV.out]; exact htA) hlA gwA (by rw [HMM.out]; exact hoB) (by rw [HVV.out]; exact hgB) (by rw [HVV.out]; exact htB)))
        obtain ⟨fb3, fb4⟩ := HFB.out wB hwBb
        clear hoA hgA htA hoB hgB htB HS
        refine ⟨by kernel_rfl, ?_⟩
        simp only [List.drop_succ_cons, List.drop_zero]
        go_wp2_with fail
        go_meet
        exact HAX.out
    ·
      obtain ⟨Y1, hY1, nY1, sY1, mY1⟩ := new_obj X0 (.cells #[.slice none 0 0] 37)
      have gY1 : Below X0.heap.size X0 Y1 := gX0.trans (nY1.mono gX0.size)
      refine wpOp_bs (w' := Y1) 13 58 (.const (.slice none 0 0)) (.slice none 0 0) (.slice (some ⟨X0.heap.size, 0, none⟩) 1 1) (some 26) rfl rfl rfl rfl rfl (by rw [hY1]; exact (bs_nil _)) ?_
      refine ⟨HS.out Y1 ((gY1.block b hbX)), ?_⟩
      simp only [tq_put, List.set_cons_succ, List.set_cons_zero]
      refine wpAnyT_one 6 #[true, true, true, true, true, true, true, false, false, true, true, true, true, true, false, false, false, false, false, false, false] (by kernel_rfl) (by kernel_rfl) (by decide) ?_
      obtain ⟨Y2, hY2, nY2, sY2, mY2⟩ := new_obj Y1 (.map #[] 0)
      have gY2 : Below X0.heap.size X0 Y2 := gY1.trans (nY2.mono gY1.size)
      refine wpOp_go (w' := Y2) 6 (.map (some Y1.heap.size)) (some 19) rfl rfl rfl (by rw [hY2]; simp [execOp, hmk, Result.andThen]) ?_
      refine ⟨HS.out Y2 ((gY2.block b hbX)), ?_⟩
      simp only [tq_put, List.set_cons_succ, List.set_cons_zero]
      refine wpAnyT_one 7 #[true, true, true, true, true, true, true, true, false, true, true, true, true, true, false, false, false, false, false, false, false] (by kernel_rfl) (by kernel_rfl) (by decide) ?_
      obtain ⟨Y3, hY3, nY3, sY3, mY3⟩ := new_obj Y2 (.cells #[.map (some Y1.heap.size)] 52)
      have gY3 : Below X0.heap.size X0 Y3 := gY2.trans (nY3.mono gY2.size)
      refine wpOp_bs (w' := Y3) 7 57 (.tmp 19) (.map (some Y1.heap.size)) (.slice (some ⟨Y2.heap.size, 0, none⟩) 1 1) (some 20) rfl rfl rfl rfl rfl (by rw [hY3]; exact (bs_set _ _)) ?_
      refine ⟨HS.out Y3 ((gY3.block b hbX)), ?_⟩
      simp only [tq_put, List.set_cons_succ, List.set_cons_zero]
      refine wpAnyT_one 8 #[true, true, true, true, true, true, true, true, true, true, true, true, true, true, false, false, false, false, false, false, false] (by kernel_rfl) (by kernel_rfl) (by decide) ?_
      have hmk2 : Y3.heap[Y1.heap.size]? = some (.map #[] 0) := (nY3.block _ (lt_of_at mY2)).trans (mY2)
      have hta : Y3.heap[Y2.heap.size]? = some (.cells #[.map (some Y1.heap.size)] 52) := mY3
      refine wpOp_law rfl (step_append_lies _ (by rfl) (.tmp 18) (.tmp 20) 57 (by rfl) B 52 i1 (.map none) 1 8 Try.underlying57 hi1 hz1 hy1 hb1 rfl (by decide) (.slice sa m sc) m (xsA G V) (by rfl) (by rw [← HSV.out, ← HMM.out]; exact rowA HGX.out gY3) ⟨Y2.heap.size, 0, none⟩ 1 1 [.map (some Y1.heap.size)] (by rfl) rfl (cell_in hta) (map_one _) (by decide) (by unfold maxLen; omega) (by omega) (Nat.le_trans hBX gY3.size) Y3.heap.size rfl ?_)
      intro gA capA wA hoA hgA htA hlA
      have hwAb : wA.heap[b]? = X0.heap[b]? := (hgA.block b (Nat.lt_of_lt_of_le hbX gY3.size) HNA.out.1).trans (gY3.block b hbX)
      have hbA : b < wA.heap.size := Nat.lt_of_lt_of_le hbX (Nat.le_trans gY3.size hgA.size)
      have gwA := Below.refl wA.heap.size wA
      refine ⟨HS.out wA hwAb, ?_⟩
      change wpAnyT _ _ _ _ _ _ _ _ _ (Act.put _ (some 21) _) _
      simp only [tq_put, List.set_cons_succ, List.set_cons_zero]
      refine wpAnyT_one 14 #[true, true, true, true, true, true, true, true, true, true, true, true, true, true, true, false, false, false, false, false, false] (by kernel_rfl) (by kernel_rfl) (by decide) ?_
      have htb0 : Y3.heap[X0.heap.size]? = some (.cells #[.slice none 0 0] 37) := (nY3.block _ (lt_of_at ((nY2.block _ (lt_of_at mY1)).trans mY1))).trans ((nY2.block _ (lt_of_at mY1)).trans (mY1))
      have htb : wA.heap[X0.heap.size]? = some (.cells #[.slice none 0 0] 37) := (hgA.block _ ((Array.getElem?_eq_some_iff.1 htb0).1) (HNS.out _ (Nat.le_refl _))).trans htb0
      have hrB := rowB HGX.out gY3 (by rw [HSV.out]; exact hgA) gwA
      refine wpOp_law rfl (step_append_lies _ (by rfl) (.tmp 25) (.tmp 26) 58 (by rfl) B 37 i2 (.slice none 0 0) 1 24 Try.underlying58 hi2 hz2 hy2 hb2 rfl (by decide) (.slice va m vc) m (xsB G V) (by rfl) (by rw [← HVV.out, ← HMM.out]; exact hrB) ⟨X0.heap.size, 0, none⟩ 1 1 [.slice none 0 0] (by rfl) rfl (cell_in htb) nil_one (by decide) (by unfold maxLen; omega) (by omega) (Nat.le_trans hBX (Nat.le_trans gY3.size (Nat.le_trans hgA.size gwA.size))) wA.heap.size rfl ?_)
      intro gB capB wB hoB hgB htB hlB
      have hwBb : wB.heap[b]? = X0.heap[b]? := (hgB.block b (Nat.lt_of_lt_of_le hbA gwA.size) HNA.out.2).trans ((gwA.block b hbA).trans hwAb)
      obtain ⟨hs3, hs4⟩ := HS.out wB hwBb
      refine ⟨⟨hs3, hs4⟩, ?_⟩
      change wpAnyT _ _ _ _ _ _ _ _ _ (Act.put _ (some 27) _) _
      simp only [tq_put, List.set_cons_succ, List.set_cons_zero]
      have HAX := Lib.hid (HFIN.out Y1.heap.size gA capA gB capB wB (AddX.of HGX.out gY3 hmk2 gY1.size (by rw [HMM.out]; exact hoA) (by rw [HSV.out]; exact hgA) (by rw [HSV.out]; exact htA) hlA gwA (by rw [HMM.out]; exact hoB) (by rw [HVV.out]; exact hgB) (by rw [HVV.out]; exact htB)))
      obtain ⟨fb3, fb4⟩ := HFB.out wB hwBb
      clear hoA hgA htA hoB hgB htB HS
      refine ⟨by kernel_rfl, ?_⟩
      simp only [List.drop_succ_cons, List.drop_zero]
      go_wp2_with fail
      go_meet
      exact HAX.out
  obtain ⟨V2, h1, h2⟩ := hcut
  have hno : V.own w.heap.size = .no := Classical.byContradiction fun h => Nat.lt_irrefl _ (HNO.out _ h)
  have hbx2 : Bx wc w.heap.size t.cells.toArray 35 := ((h2.block w.heap.size (by have := HWB.out; omega) hno).1).trans HTX.out
  have HRT := Lib.hid (show wc.rangeAt w.heap.size 0 t.cells from hbx2.range)
  have H1T := Lib.hid (one_tcells HTI.out)
  have hbw : Below B W wc := GAtL.below HG1.out h2 hB1
  have hbl := (HB1.out.mono hB).trans hbw
  have HIA := Lib.hid (HIN.out.add (a := a) (t := t) (by rw [HMM.out]; exact hm))
  have hBc : B ≤ wc.heap.size := Nat.le_trans hB hbl.size
  have HEN := Lib.hid (enter_ok l Z (fun k => if k = G.m then (a, t) else D k) 10000 t a B wc b G.add V2 G.m c hw (Nat.le_refl _) (HTI.out.below hbl (Nat.le_refl _)) hBc (HEL.out.below hbl (Nat.le_refl _)) h1 HIA.out (Nat.lt_succ_self _) (.inr HIN.out.ok.ln)
    (fun x hx => by show Tg l (if G.m = G.m then (a, t) else D G.m).1 (if G.m = G.m then (a, t) else D G.m).2 x; rw [if_pos rfl]; exact hx) HZZ.out hc)
  rw [HMM.out] at HEN
  have HM2 := Lib.hid (HMW.out.trans h2)
  clear h1 h2 hbx2 hbw hbl c3 c4 hmm
  go_wp2_with (refine wpList_load_mid rfl 35 (.tmp 5) rfl w.heap.size 0 rfl t.cells _ HRT.out Try.underlying35 rfl (by rw [info_T, H1T.out.1]) ?_)
  refine HEN.out.mono ?_
  rintro e w3 ⟨rfl, G3, V3, h3, h4, h5, h6, h7⟩
  have H3 := Lib.hid h3
  have H4 := Lib.hid (HM2.out.trans h4)
  have H5 := Lib.hid (And.intro h5 (And.intro h6 h7))
  clear h3 h4 h5 h6 h7 HEN
  go_wp2_with fail
  go_ret
  refine ⟨?_, G3, V3, H3.out, H4.out, ?_⟩
  · rw [HMM.out]; rfl
  · rw [HMM.out]; exact H5.out
end Go.Proofs.Ytecedbjkebdeaaa
