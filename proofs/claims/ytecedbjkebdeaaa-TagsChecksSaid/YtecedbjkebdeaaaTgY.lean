/-
  Package tags: 'joinAlone', over what 'join' does; a set that is emptied.
-/
import Derived.Test.YtecedbjkebdeaaaTgK
import Derived.Test.YtecedbjkebdeaaaTgL
namespace Go.Proofs.Ytecedbjkebdeaaa
open Go.RowKit Go.Maps Go.WideElems Go.ChangeMaps Go.MapKept Go.Shelf
set_option linter.unusedVariables false
set_option linter.unusedSimpArgs false
set_option maxRecDepth 100000

theorem SetAt.empty {w : World} {b clock : Nat} (h : w.heap[b]? = some (.map #[] clock)) : SetAt w b TS.no :=
  ⟨#[], clock, h, ⟨by simp, stamped_empty clock, by simp⟩, Nat.zero_le _, rfl⟩
theorem wpList_clear {w : World} {ops : Array Oper} {rest : List Oper} {o : Oper} {a : Act} {Q : Exit → Act → World → Prop} (hg : o.guard = none) (x : Operand) (ho : o.op = .call { callee := .builtin .clear, args := #[x], argTypes := #[52] })
    (b : Nat) (S : TS) (hx : a.eval x = .map (some b)) (h : SetAt w b S) (hK : ∀ w', SetAt w' b TS.no → w.grownBy w' (some b) → wpList Try.prog ops Q rest (a.put o.dst (.tuple #[])) w') : wpList Try.prog ops Q (o :: rest) a w := by
  refine wpList_plain hg fun K' hK' => ?_
  obtain ⟨es, clock, hb, _⟩ := h
  have hrun : ∀ ty, (Builtin.clear_ #[52] ty #[.map (some b)]).run Try.prog w = .ok (.tuple #[]) { w with heap := w.heap.setIfInBounds b (.map #[] clock) } := fun ty => by
    simp [Builtin.clear_, run_underlying Try.underlying52, Go.MapKept.run_getObj_map hb, Go.MapKept.run_setObj_map _ hb, Result.andThen]
  have hs := heap_set (o' := .map #[] clock) hb
  unfold Oper.wp
  simp [execOp, ho, resolve, invoke, builtin, hx, hrun, Result.andThen]
  exact hK' _ _ (hK _ (SetAt.empty hs.1) ⟨rfl, rfl, rfl, by simp, fun k _ hk => hs.2 k (fun e => hk (by rw [e]))⟩)
/-- what 'join' does with a type -/
def JoinC (l : EL) (G : GL) (B : Nat) (t : TT) : Prop := ∀ (w : World) (b ks : Nat) (V : GV) (s : TS), GAt B w b l G V → B ≤ w.heap.size → EOk B w l → TIn B w t → SetAt w ks s → V.own ks = .no → B ≤ ks →
  Calls Try.prog 16 #[.pointer (some ⟨b, 0, none⟩), .map (some ks), .agg t.cells.toArray] w fun e w' => ∃ r V', e = .returned (.bool r) ∧ GAt B w' b l G V' ∧ JV b (some ks) V V' w w' ∧ (r = true → Rt l t ∧ Dj s l t ∧ ∃ s', SetAt w' ks s' ∧ Un s l t s') ∧ (r = false → ¬ (Rt l t ∧ Dj s l t))
theorem JV.below {B b : Nat} {ks : Option Nat} {V V' : GV} {l : EL} {G : GL} {w w' : World} (h : JV b ks V V' w w') (hG : GAt B w b l G V) (hB : B ≤ w.heap.size) (hk : ∀ k, ks = some k → B ≤ k) : Below B w w' :=
  h.jm.below hB (hG.lo b (by rw [hG.ob]; nofun)).1 hk
set_option maxHeartbeats 4000000 in
theorem alone1_ok (l : EL) (G : GL) (B : Nat) (t : TT) (hJ : JoinC l G B t) (w : World) (b gb : Nat) (V : GV) (hG : GAt B w b l G V) (hB : B ≤ w.heap.size) (hl : EOk B w l) (ht : TIn B w t) (hb : Bx w gb #[.pointer (some ⟨b, 0, none⟩)] 47) :
    Calls Try.prog 46 #[.agg t.cells.toArray, .pointer (some ⟨gb, 0, none⟩)] w fun e w' => ∃ r V', e = .returned (.bool r) ∧ GAt B w' b l G V' ∧ JV b none V V' w w' ∧ (r = true ↔ ¬ Rt l t) := by
  have H1T := Lib.hid (one_tcells ht)
  have HXN := Lib.hid (Bx.new w t.cells.toArray 35)
  have HRT := Lib.hid (fun o => (((Bx.new w t.cells.toArray 35).alloc o).range : ((w.alloc (.cells t.cells.toArray 35)).alloc o).rangeAt w.heap.size 0 t.cells))
  have hmk := mk_set
  have k0 : (w.alloc (.cells t.cells.toArray 35)).cell? ⟨gb, 0, none⟩ = some (.pointer (some ⟨b, 0, none⟩)) := (hb.alloc _).cell 0 rfl
  have e1 : (w.alloc (.cells t.cells.toArray 35)).heap.size = w.heap.size + 1 := by simp
  have hb2 : Below w.heap.size w ((w.alloc (.cells t.cells.toArray 35)).alloc (.map #[] 0)) := ((Below.refl w.heap.size w).alloc (Nat.le_refl _) _).alloc (by omega) _
  have hno : V.own (w.heap.size + 1) = .no := Classical.byContradiction fun h => by have := (hG.lo _ h).2; omega
  have HC := Lib.hid (hJ _ b (w.heap.size + 1) V TS.no (GAtL.alloc (GAtL.alloc hG (.cells t.cells.toArray 35)) (.map #[] 0)) (Nat.le_trans hB hb2.size) (hl.below (hb2.mono hB) (Nat.le_refl _)) (ht.below (hb2.mono hB) (Nat.le_refl _)) (by rw [← e1]; exact SetAt.made _ TS.no rfl) hno (by omega))
  have HB2 := Lib.hid hb2
  clear hJ hG hl ht hb hb2 hno e1
  go_enter Try.func46, Try.ntmps46
  go_wp2_with (first | (refine wpList_load_mid rfl 35 (.tmp 2) rfl w.heap.size 0 rfl t.cells _ (HRT.out _) Try.underlying35 rfl (by rw [info_T, H1T.out.1]) ?_))
  refine HC.out.mono ?_
  rintro e w1 ⟨r, V1, rfl, h1, h2, h3, h4⟩
  have H1 := Lib.hid h1
  have H2 := Lib.hid (JV.fresh (JV.of_below (b := b) (ks := none) (V := V) HB2.out) h2 (by omega))
  have H3 := Lib.hid (show (!r) = true ↔ ¬ Rt l t from by
    cases r with
    | true => exact ⟨fun h => (by cases h), fun h => absurd (h3 rfl).1 h⟩
    | false => exact ⟨fun _ hR => h4 rfl ⟨hR, fun x _ hs => by cases hs⟩, fun _ => rfl⟩)
  clear h1 h2 h3 h4 HC
  go_wp2_with fail
  go_ret
  exact ⟨!r, V1, rfl, H1.out, H2.out, H3.out⟩
set_option maxHeartbeats 4000000 in
theorem alone_ok (l : EL) (G : GL) (B : Nat) (ea : Option Addr) (en ec : Nat) (et : Nat → TT) (hJ : ∀ i, i < en → JoinC l G B (et i)) (w : World) (b : Nat) (V : GV) (hG : GAt B w b l G V) (hB : B ≤ w.heap.size) (hl : EOk B w l) (hr : RowAt B w ea en ec 15 (fun i => (et i).cells)) (ht : ∀ i, i < en → TIn B w (et i)) :
    Calls Try.prog 28 #[.pointer (some ⟨b, 0, none⟩), .slice ea en ec] w fun e w' => ∃ r V', e = .returned (.bool r) ∧ GAt B w' b l G V' ∧ JV b none V V' w w' ∧ (r = true ↔ ∀ i, i < en → Rt l (et i)) := by
  have hbx := Bx.new w #[.pointer (some ⟨b, 0, none⟩)] 47
  have hb1 := (Below.refl w.heap.size w).alloc (Nat.le_refl _) (.cells #[.pointer (some ⟨b, 0, none⟩)] 47)
  have HB1 := Lib.hid hb1
  have hg1 : GAt B (w.alloc (.cells #[.pointer (some ⟨b, 0, none⟩)] 47)) b l G V := GAtL.alloc hG _
  have hblt := hG.bx.lt
  have hB1 : B ≤ (w.alloc (.cells #[.pointer (some ⟨b, 0, none⟩)] 47)).heap.size := Nat.le_trans hB hb1.size
  have HC := Lib.hid (contT2 B (w.alloc (.cells #[.pointer (some ⟨b, 0, none⟩)] 47)) ea en ec et 46 #[] #[.pointer (some ⟨w.heap.size, 0, none⟩)] (fun i => ¬ Rt l (et i))
    (fun w' => ∃ V', GAt B w' b l G V' ∧ JV b none V V' (w.alloc (.cells #[.pointer (some ⟨b, 0, none⟩)] 47)) w')
    (enters_of Try.func46 (by kernel_rfl) rfl)
    (fun w' ⟨V', h1, h2⟩ => h2.below hg1 hB1 (fun k hk => by cases hk))
    ⟨V, hg1, JV.refl _ _ _ _⟩ (hr.below (hb1.mono hB) (Nat.le_refl _)) (fun i hi => (ht i hi).below (hb1.mono hB) (Nat.le_refl _))
    (fun i hi w' ⟨V', h1, h2⟩ => by
      have hbw := h2.below hg1 hB1 (fun k hk => by cases hk)
      have hb0 := (hb1.mono hB).trans hbw
      refine (alone1_ok l G B (et i) (hJ i hi) w' b w.heap.size V' h1 (Nat.le_trans hB1 hbw.size) (hl.below hb0 (Nat.le_refl _)) ((ht i hi).below hb0 (Nat.le_refl _)) ?_).mono fun e w'' ⟨r, V'', h3, h4, h5, h6⟩ => ⟨r, h3, ⟨V'', h4, h2.trans h5⟩, h6⟩
      exact (h2.jm.block w.heap.size hbx.lt (by omega) (by nofun)).trans hbx))
  clear hJ hG hl hr ht hg1 hbx hb1 hB1
  go_enter Try.func28, Try.ntmps28
  go_wp2_with fail
  refine HC.out.mono ?_
  rintro e w1 ⟨r, rfl, ⟨V1, h1, h2⟩, h3⟩
  have H1 := Lib.hid h1
  have H2 := Lib.hid ((JV.of_below (b := b) (ks := none) (V := V) HB1.out).trans h2)
  have H3 := Lib.hid (show (!r) = true ↔ ∀ i, i < en → Rt l (et i) from by
    cases r with
    | true => exact ⟨fun h => (by cases h), fun h => by
        obtain ⟨i, hi, hy⟩ := h3.1 rfl
        exact absurd (h i hi) hy⟩
    | false => exact ⟨fun _ i hi => Classical.byContradiction fun hn => (by have := h3.2 ⟨i, hi, hn⟩; cases this), fun _ => rfl⟩)
  clear h1 h2 h3 HC
  go_wp2_with fail
  go_ret
  exact ⟨!r, V1, rfl, H1.out, H2.out, H3.out⟩
end Go.Proofs.Ytecedbjkebdeaaa
