/-
  Package tags: 'Order', its walks.
-/
import Derived.Test.YtecedbjkebdeaaaTgOr
namespace Go.Proofs.Ytecedbjkebdeaaa
open Go.RowKit Go.Maps Go.WideElems Go.ChangeMaps Go.MapKept Go.Shelf
set_option linter.unusedVariables false
set_option linter.unusedSimpArgs false
set_option maxRecDepth 100000

def RelO (w : World) (v iv : Value) (wr : World) : Prop :=
  ∃ i : Nat, iv = .int .i64 (i : Nat) ∧ wr.ownsRow w.heap.size 3 1 v i ((List.range i).map fun j => .int .i64 ((j : Nat) : Int)) ∧ Below w.heap.size w wr
/-- what 'Order' answers -/
def OrdA (w : World) (l : EL) (au : Bool) (t : TT) (n k : Nat) (v : Value) (w' : World) : Prop :=
  ∃ xs : List Int, w'.ownsRow w.heap.size 3 1 v n (xs.map (Value.int .i64)) ∧ Below w.heap.size w w' ∧
      (au = true → xs = (List.range n).map fun j => ((j : Nat) : Int)) ∧ (au = false → ∃ S : Nat → TS, xs = sortK k (fun j => (S j).least) ∧ ∀ j, j < n → ∀ x, x ∈ univ → (S j x = true ↔ Tg l false (t.alt j) x))
set_option maxHeartbeats 8000000 in
theorem Order_ok (w : World) (l : EL) (au : Bool) (t : TT) (hl : EOk w.heap.size w l) (ht : TIn w.heap.size w t) (hn : l.n ≤ 1000) (hz : ∀ p, p < l.n → (l.f p).t.wid ≤ 10000) (hw : t.wid ≤ 1000) (k : Nat) (hk : au = false → t.pn = k + 1 ∧ k + 1 < 20) :
    Calls Try.prog 11 #[.slice l.a l.n l.cap, .bool au, .agg t.cells.toArray] w fun e w' => ∃ v, e = .returned v ∧ OrdA w l au t t.pn k v w' := by
  obtain ⟨i0, hi0, hz0, hz1, hz2⟩ := info_parts info_i64
  obtain ⟨pa, pc, aa, ac, ea, ec, TC⟩ := ht.tcells
  have HTC := Lib.hid TC
  have HXN := Lib.hid (Bx.new w t.cells.toArray 35)
  have HB0 := Lib.hid (show Below w.heap.size w (w.alloc (.cells t.cells.toArray 35)) from (Below.refl w.heap.size w).alloc (Nat.le_refl _) _)
  have hwi := t.wid_eq
  have hpn : t.pn ≤ 1000 := by
    have := sumW_ge (f := fun i => (t.alt i).wid) (n := t.nal) (fun i _ => (t.alt i).wid_pos)
    have h2 : t.pn ≤ t.nal := Nat.le_add_right _ _
    omega
  have HWI := Lib.hid (show ∀ i, i < t.pn → (t.alt i).wid ≤ 10000 from fun i hi => by
    have := sumW_one (f := fun i => (t.alt i).wid) (n := t.nal) (i := i) (Nat.lt_of_lt_of_le hi (Nat.le_add_right _ _))
    have : (fun i => (t.alt i).wid) i = (t.alt i).wid := rfl
    omega)
  have HAL := Lib.hid (show ∀ i, i < t.pn → TIn w.heap.size w (t.alt i) from fun i hi => (TC.al i (Nat.lt_of_lt_of_le hi (Nat.le_add_right _ _))).2)
  have HPR := Lib.hid TC.pr
  have HL := Lib.hid hl
  have HZ := Lib.hid hz
  have c12 := HXN.out.cell 12 TC.ps
  obtain ⟨n, hnn⟩ : ∃ n, t.pn = n := ⟨_, rfl⟩
  have HNN := Lib.hid hnn
  rw [hnn] at c12 hpn hk HWI HAL HPR ⊢
  have hs0 : (w.alloc (.cells t.cells.toArray 35)).heap.size = w.heap.size + 1 := by simp
  clear TC hl hz hnn hwi hw
  go_enter Try.func11, Try.ntmps11
  go_wp2_with fail
  obtain ⟨W0, hW0⟩ : ∃ W0, w.alloc (.cells t.cells.toArray 35) = W0 := ⟨_, rfl⟩
  rw [hW0] at c12 HXN HB0 hs0 ⊢
  clear hW0
  go_loopw [7, 13] (fun v iv wr => RelO W0 v iv wr ∧ (Lib.intOf iv).toNat ≤ n) (fun _ iv _ => n - (Lib.intOf iv).toNat)
  case atStart => exact ⟨⟨0, rfl, World.ownsRow_nil _ _ _ _, Below.refl _ _⟩, Nat.zero_le _⟩
  case round =>
  obtain ⟨⟨i, rfl, hown, hb1⟩, hi⟩ := hrel
  have hi : i ≤ n := by simpa [Lib.intOf] using hi
  have HOW := Lib.hid hown
  have HB1 := Lib.hid hb1
  have hs1 := hb1.size
  have c12r : wr.cell? ⟨w.heap.size, 12, none⟩ = some (.slice pa n pc) := (hb1.cell (p := ⟨w.heap.size, 12, none⟩) (by show w.heap.size < W0.heap.size; omega)).trans c12
  clear hown hb1
  by_cases hlt : i < n
  · have q4 : decide ((i : Int) < (n : Int)) = true := decide_eq_true (by omega)
    have q4n : decide (i < n) = true := decide_eq_true hlt
    have q5 : IntKind.i64.wrap ((i : Int) + 1) = ((i + 1 : Nat) : Int) := wrap_succ hlt (by omega)
    clear c12 c12r
    go_wp2_with (at_builtin; refine wpList_append_own _ rfl (.tmp 16) (.tmp 18) 37 rfl W0.heap.size 3 i0 (.int .i64 0) 1 8 Try.underlying37 hi0 hz0 hz1 hz2 rfl (by decide) _ i ((List.range i).map fun j => .int .i64 ((j : Nat) : Int)) rfl (World.ownsRow.alloc HOW.out _) ⟨wr.heap.size, 0, none⟩ 1 1 [.int .i64 (i : Nat)] rfl rfl (cell_one_new wr (.int .i64 (i : Nat)) _) (by intro u hu; rw [List.mem_singleton] at hu; subst hu; rfl) (by unfold maxLen; omega) (by omega) (by simp; omega) ?_; intro v4 w6 ho4 hg4 _; have HO4 := Lib.hid ho4; have HG4 := Lib.hid hg4; clear ho4 hg4)
    have HB6 := Lib.hid ((HB1.out.alloc (by omega) _).grown HG4.out (by simp; omega) (fun j hj => (HOW.out.lt j hj).1))
    go_roundw
    case rel => exact ⟨⟨i + 1, rfl, by rw [List.range_succ, List.map_append]; exact HO4.out, HB6.out⟩, by simp only [Lib.intOf]; omega⟩
    case measure => simp only [Lib.intOf]; omega
  · have q4 : decide ((i : Int) < (n : Int)) = false := decide_eq_false (by omega)
    have q4n : decide (i < n) = false := decide_eq_false hlt
    have HIN := Lib.hid (show i = n by omega)
    cases au with
    | true =>
      clear c12 c12r
      go_wp2_with fail
      go_ret
      have h := HOW.out
      rw [HIN.out] at h
      refine ⟨_, rfl, (List.range n).map (fun j => ((j : Nat) : Int)), by rw [List.map_map]; exact ownsRow_base_a h (by omega), HB0.out.trans (HB1.out.mono HB0.out.size), fun _ => rfl, fun e => (by cases e)⟩
    | false =>
      obtain ⟨hnk, h20⟩ := hk rfl
      have hbw := HB0.out.trans (HB1.out.mono HB0.out.size)
      have HBW := Lib.hid hbw
      have HLT := Lib.hid (leastTags_ok wr l pa n pc t.ald t.alt ((HL.out.below hbw (Nat.le_refl _)).below (Below.refl wr.heap.size wr) hbw.size) ((HPR.out.below hbw (Nat.le_refl _)).below (Below.refl wr.heap.size wr) hbw.size) (fun i hi => ((HAL.out i hi).below hbw (Nat.le_refl _)).below (Below.refl wr.heap.size wr) hbw.size) hn HZ.out HWI.out hpn)
      have HNK := Lib.hid hnk
      have hn0 : 0 < n := by omega
      have hi0' : 0 < i := by have := HIN.out; omega
      have hgg : W0.heap.size ≤ wr.heap.size := hs1
      clear c12 hbw hnk hk
      go_wp2_with fail
      refine HLT.out.mono ?_
      rintro e w2 ⟨v2, S, rfl, h1, h2, h3⟩
      have hs2 := h3.size
      obtain ⟨g2, cap2, rfl, hg2, hg2l⟩ := h1.form (by omega)
      obtain ⟨g, cap, hvv, hg, hgl⟩ := HOW.out.form (by omega)
      subst hvv
      have HX2 := Lib.hid (own_block HOW.out (w' := w2.alloc (.cells #[.slice (some ⟨g2, 0, none⟩) n cap2] 37)) fun j hj => by
        have h4 := (HOW.out.lt j hj).2
        rw [Below.heap_alloc _ _ _ (by omega)]
        exact h3.block j h4)
      have HH2 := Lib.hid h2
      have HB2 := Lib.hid (HBW.out.trans (h3.mono HBW.out.size))
      have HK1 := Lib.hid (show ∀ j, j < k + 1 → (w2.alloc (.cells #[.slice (some ⟨g2, 0, none⟩) n cap2] 37)).cell? ⟨g2, j, none⟩ = some (.int .i64 ((S j).least)) from fun j hj => by
        rw [World.cell?_of_block (Below.heap_alloc _ _ _ hg2l)]
        obtain ⟨g', cap', hv', _, _, _, hcs⟩ := own_read 37 3 Try.underlying37 (by kernel_rfl) Try.sizeOf3 h1 (i := j) (by have := HNK.out; omega)
        cases hv'
        exact hcs j _ (by rw [List.getElem?_map, List.getElem?_range (by have := HNK.out; omega)]; rfl))
      clear h1 h2 h3 c12r
      have HX3 := Lib.hid (show (w2.alloc (.cells #[.slice (some ⟨g2, 0, none⟩) n cap2] 37)).ownsRow W0.heap.size 3 1 (.slice (some ⟨g, 0, none⟩) (k + 1) cap) (k + 1) ((List.range (k + 1)).map fun i => .int .i64 ((i : Nat) : Int)) from by
        have h := HX2.out
        have e : i = k + 1 := by
          have := HIN.out
          have := HNK.out
          omega
        rw [e] at h
        exact h)
      have HSO := Lib.hid (sortRow_ok k (fun j => (S j).least) (w2.alloc (.cells #[.slice (some ⟨g2, 0, none⟩) n cap2] 37)) W0.heap.size w2.heap.size g2 cap2 g cap h20 HX3.out (by omega) (by omega) (by rw [← HNK.out]; simp) HK1.out)
      have HIK := Lib.hid (show i = k + 1 by have := HIN.out; have := HNK.out; omega)
      rw [← HIK.out] at HSO
      go_wp2_with fail
      refine HSO.out.mono ?_
      rintro e w3 ⟨rfl, h1, h2⟩
      have H1 := Lib.hid h1
      have HB3 := Lib.hid ((HB2.out.alloc (by have := HB2.out.size; omega) (.cells #[.slice (some ⟨g2, 0, none⟩) n cap2] 37)).trans (h2.mono (by omega)))
      clear h1 h2
      go_wp2_with fail
      go_ret
      have h := H1.out
      refine ⟨_, rfl, sortK k (fun j => (S j).least), ?_, HB3.out, fun e => (by cases e), fun _ => ⟨S, rfl, HH2.out⟩⟩
      rw [HIN.out] at h ⊢
      exact ownsRow_base_a h (by omega)
end Go.Proofs.Ytecedbjkebdeaaa
