/-
  Package tags: 'Of'.
-/
import Derived.Test.YtecedbjkebdeaaaTgV
namespace Go.Proofs.Ytecedbjkebdeaaa
open Go.RowKit Go.Maps Go.WideElems Go.ChangeMaps Go.MapKept Go.Shelf
set_option linter.unusedVariables false
set_option linter.unusedSimpArgs false
set_option maxRecDepth 100000

/-- the automatic tags behind the first one: k - 1 of them -/
def more : Nat → List Int
  | 0 => []
  | 1 => []
  | k + 2 => more (k + 1) ++ [1000 + ((k + 1 : Nat) : Int)]
theorem more_succ {k : Nat} (hk : 1 ≤ k) : more (k + 1) = more k ++ [1000 + (k : Int)] := by
  obtain ⟨j, rfl⟩ : ∃ j, k = j + 1 := ⟨k - 1, by omega⟩
  rfl
theorem more_mem {x : Int} : ∀ {k : Nat}, x ∈ more k ↔ 1001 ≤ x ∧ x < 1000 + (k : Int)
  | 0 => by simp [more]; try omega
  | 1 => by simp [more]; try omega
  | k + 2 => by
    have ih := more_mem (x := x) (k := k + 1)
    show x ∈ more (k + 1) ++ [1000 + ((k + 1 : Nat) : Int)] ↔ _
    rw [List.mem_append, ih, List.mem_singleton]
    omega
theorem more_len : ∀ k : Nat, (more k).length = k - 1
  | 0 => rfl
  | 1 => rfl
  | k + 2 => by
    have ih := more_len (k + 1)
    show (more (k + 1) ++ [1000 + ((k + 1 : Nat) : Int)]).length = _
    rw [List.length_append, ih]
    simp
theorem more_sorted : ∀ k : Nat, (more k).Pairwise (fun x y => x < y)
  | 0 => List.Pairwise.nil
  | 1 => List.Pairwise.nil
  | k + 2 => by
    show (more (k + 1) ++ [1000 + ((k + 1 : Nat) : Int)]).Pairwise _
    rw [List.pairwise_append]
    refine ⟨more_sorted (k + 1), List.pairwise_singleton _ _, fun x hx y hy => ?_⟩
    rw [List.mem_singleton] at hy
    subst hy
    exact (more_mem.1 hx).2
/-- the tags of a type, rising -/
def TagL (l : EL) (a : Bool) (t : TT) (xs : List Int) : Prop := xs.Pairwise (fun x y => x < y) ∧ ∀ x, x ∈ xs ↔ Tg l a t x
theorem TagL.of {l : EL} {a : Bool} {t : TT} {D : Nat → Bool × TT} {G : GL} {c n : Nat} (hI : GI l (fun x => Tg l a t x) D G c) (hD : GDone l D G) (hn : n < G.m) (hd : D n = (a, t)) (hr : Req l G n a t) : TagL l a t ((G.S n).l ++ more G.most) := by
  have hsn := fun x hx hs => hI.ok.sn n hn x hx hs
  rw [hd] at hsn
  have hall : ∀ x, Tg l a t x → G.S n (inSet x) = true ∧ (1000 ≤ x → x < 1000 + (G.most : Int)) := fun x hx => hD.all hI.ok hx n a t hn hr .here
  have hmost : ∀ k : Nat, k < G.most → Tg l a t (1000 + (k : Int)) := fun k hk => (hI.ok.mo (by omega)).downward k (by omega)
  refine ⟨?_, fun x => ?_⟩
  · rw [List.pairwise_append]
    refine ⟨(G.S n).l_sorted, more_sorted _, fun x hx y hy => ?_⟩
    have h1 := univ_pos (TS.l_mem.1 hx).1
    have h2 := (more_mem.1 hy).1
    omega
  · rw [List.mem_append]
    constructor
    · rintro (h | h)
      · exact hsn x (TS.l_mem.1 h).1 (TS.l_mem.1 h).2
      · obtain ⟨h1, h2⟩ := more_mem.1 h
        have := hmost (x - 1000).toNat (by omega)
        rwa [show (1000 : Int) + ((x - 1000).toNat : Int) = x by omega] at this
    · intro hx
      obtain ⟨h1, h2⟩ := hall x hx
      by_cases h3 : x < 1001
      · refine .inl (TS.l_mem.2 ⟨?_, ?_⟩)
        · by_cases h4 : x < 1000
          · exact hx.pos.2 h4
          · obtain rfl : x = 1000 := by omega
            unfold univ; simp
        · unfold inSet at h1
          split at h1
          · exact h1
          · obtain rfl : x = 1000 := by omega
            exact h1
      · exact .inr (more_mem.2 ⟨by omega, h2 (by omega)⟩)
def RelOf (b M : Nat) (S0 : List Int) (w : World) (v iv : Value) (wr : World) : Prop :=
  ∃ k : Nat, 1 ≤ k ∧ (k = 1 ∨ k ≤ M) ∧ iv = .int .i64 (k : Nat) ∧ wr.ownsRow w.heap.size 3 1 v (S0.length + (k - 1)) ((S0 ++ more k).map (Value.int .i64)) ∧ Below w.heap.size w wr
set_option maxHeartbeats 8000000 in
theorem Of_ok (w : World) (l : EL) (a : Bool) (t : TT) (hl : EOk w.heap.size w l) (ht : TIn w.heap.size w t) (hn : l.n ≤ 1000) (hz : ∀ p, p < l.n → (l.f p).t.wid ≤ 10000) (hw : t.wid ≤ 10000) :
    Calls Try.prog 10 #[.slice l.a l.n l.cap, .bool a, .agg t.cells.toArray] w fun e w' => ∃ v xs, e = .returned v ∧ w'.ownsRow w.heap.size 3 1 v xs.length (xs.map (Value.int .i64)) ∧ TagL l a t xs ∧ Below w.heap.size w w' := by
  obtain ⟨i0, hi0, hz0, hz1, hz2⟩ := info_parts info_i64
  have hb0 : Below w.heap.size w (w.alloc (.cells t.cells.toArray 35)) := (Below.refl w.heap.size w).alloc (Nat.le_refl _) _
  have HB0 := Lib.hid hb0
  have hbx := Bx.new w t.cells.toArray 35
  have HXN := Lib.hid hbx
  have H1T := Lib.hid (one_tcells ht)
  have hs0 : (w.alloc (.cells t.cells.toArray 35)).heap.size = w.heap.size + 1 := by simp
  have HEL := Lib.hid ((hl.below hb0 (Nat.le_refl _)).below (Below.refl (w.alloc (.cells t.cells.toArray 35)).heap.size _) (by omega))
  have HTI := Lib.hid ((ht.below hb0 (Nat.le_refl _)).below (Below.refl (w.alloc (.cells t.cells.toArray 35)).heap.size _) (by omega))
  have HN := Lib.hid (newGraph_ok (w.alloc (.cells t.cells.toArray 35)) l (by omega))
  obtain ⟨N, hN⟩ : ∃ N, l.n = N := ⟨_, rfl⟩
  have HNN := Lib.hid hN
  have HZ := Lib.hid hz
  have HI0 := Lib.hid (GI.new l (fun x => Tg l a t x) (by omega))
  rw [hN] at hn HN ⊢
  clear hl ht hz hb0 hbx hN
  go_enter Try.func10, Try.ntmps10
  go_wp2_with fail
  obtain ⟨W0, hW0⟩ : ∃ W0, w.alloc (.cells t.cells.toArray 35) = W0 := ⟨_, rfl⟩
  rw [hW0] at HN HEL HTI HXN HB0 hs0 ⊢
  clear hW0
  refine HN.out.mono ?_
  rintro e w1 ⟨b, V, rfl, h1, h2⟩
  have hs1 := h2.size
  have HG1 := Lib.hid h1
  have HB1 := Lib.hid h2
  have hm0 : (GL.new l.n).m < 1000000 := by show l.n < 1000000; have := HNN.out; omega
  have HA := Lib.hid (gadd_ok l (fun x => Tg l a t x) (fun p => ((l.f p).auto, (l.f p).t)) W0.heap.size w1 b (GL.new l.n) V a t 0 hs1 (HEL.out.below h2 (Nat.le_refl _)) (by rw [HNN.out]; exact h1) (HTI.out.below h2 (Nat.le_refl _)) hm0 HI0.out hw (fun x hx => hx) (by omega))
  have hbx1 : Bx w1 w.heap.size t.cells.toArray 35 := (h2.block w.heap.size (by omega)).trans HXN.out
  have HRT := Lib.hid (show w1.rangeAt w.heap.size 0 t.cells from hbx1.range)
  clear h1 h2 hbx1 HN
  go_wp2_with (refine wpList_load_mid rfl 35 (.tmp 5) rfl w.heap.size 0 rfl t.cells _ HRT.out Try.underlying35 rfl (by rw [info_T, H1T.out.1]) ?_)
  refine HA.out.mono ?_
  rintro e w2 ⟨rfl, G2, V2, h1, h2, h3, h4, h5⟩
  have hs2 := h2.size
  have hg1 : GAt W0.heap.size w1 b l (GL.new l.n) V := by rw [HNN.out]; exact HG1.out
  have HB2 := Lib.hid (HB1.out.trans (GAtL.below hg1 h2 hs1))
  have HS := Lib.hid (settle_ok l (fun x => Tg l a t x) _ W0.heap.size w2 b G2 V2 (0 + t.wid) (Nat.le_trans hs1 hs2) (HEL.out.below HB2.out (Nat.le_refl _)) h1 h3 HZ.out (by rw [HNN.out]; omega))
  have HG2 := Lib.hid h1
  have HE2 := Lib.hid h4
  have HR2 := Lib.hid h5
  clear h1 h2 h3 h4 h5 HA hg1
  go_wp2_with fail
  refine HS.out.mono ?_
  rintro e w3 ⟨rfl, G3, V3, h1, h2, h3, h4, h5⟩
  have hs3 := h2.size
  have HB3 := Lib.hid (HB2.out.trans (GAtL.below HG2.out h2 (Nat.le_trans hs1 hs2)))
  have hm3 : G3.m = l.n + 1 := by rw [h4.m, HE2.out.m]; rfl
  have hlm : l.n < G3.m := by omega
  have HTL := Lib.hid (TagL.of h3 h5 hlm (if_pos rfl) (HR2.out.ext h4))
  obtain ⟨k0, hk0, ho0, hss⟩ := (h1.sets l.n hlm).1 (.inr (Nat.le_refl _))
  obtain ⟨sg, scap, hsv, hsB, hslt, hixs, hcs⟩ := own_read 57 52 Try.underlying57 (by kernel_rfl) Try.sizeOf52 h1.s hlm
  have c3 := h1.bx.cell 3 (v := .slice (some ⟨sg, 0, none⟩) G3.m scap) (by rw [← hsv]; rfl)
  have c6 := h1.bx.cell 6 (v := .int .i64 (G3.most : Nat)) rfl
  have cs := hcs l.n _ (range_at hlm)
  rw [hk0] at cs
  have hmost := h3.most
  have hblt := h1.bx.lt
  have HSO := Lib.hid (sorted_ok w3 (some k0) (G3.S l.n) (.inr ⟨k0, rfl, hss⟩))
  have hln9 := (G3.S l.n).l_le
  obtain ⟨S0, hS0⟩ : ∃ S0, (G3.S l.n).l = S0 := ⟨_, rfl⟩
  rw [hS0] at HTL HSO hln9
  obtain ⟨M, hM⟩ : ∃ M, G3.most = M := ⟨_, rfl⟩
  rw [hM] at HTL c6 hmost
  have hnm : (GL.new l.n).m = l.n := rfl
  have HLN := Lib.hid HNN.out
  have hgm : (GL.new l.n).m = N := by rw [hnm]; exact HNN.out
  rw [hgm]
  obtain ⟨m3, hm3e⟩ : ∃ m3, G3.m = m3 := ⟨_, rfl⟩
  rw [hm3e] at c3 hixs
  rw [HNN.out] at cs hixs
  have hNm : N < m3 := by rw [← HNN.out, ← hm3e]; exact hlm
  clear hm3 hm3e hlm h1 h2 h3 h4 h5 hss hcs hk0 hS0 hM HS hnm hgm hsv
  go_wp2_with fail
  refine HSO.out.mono ?_
  rintro e w4 ⟨v, rfl, hown, hb4⟩
  have hs4 := hb4.size
  have c6' := (hb4.cell (p := ⟨b, 6, none⟩) hblt).trans c6
  have HOW := Lib.hid hown
  have HB4 := Lib.hid (HB3.out.trans (hb4.mono (by omega)))
  have HC6 := Lib.hid (show ∀ X, Below w4.heap.size w4 X → X.cell? ⟨b, 6, none⟩ = some (.int .i64 (M : Nat)) from fun X h => (h.cell (p := ⟨b, 6, none⟩) (by show b < _; omega)).trans c6')
  have HOF := Lib.hid (show ∀ (X : World), Below w3.heap.size w3 X → Below w.heap.size w X from fun X h => HB0.out.trans ((HB3.out.trans (h.mono (by omega))).mono (by omega)))
  have HLT := Lib.hid (show W0.heap.size ≤ w3.heap.size by omega)
  have HW6 := Lib.hid (show ∀ X, Below w3.heap.size w3 X → X.cell? ⟨b, 6, none⟩ = some (.int .i64 (M : Nat)) from fun X h => (h.cell (p := ⟨b, 6, none⟩) hblt).trans c6)
  clear c3 c6 c6' cs hown hixs HSO
  go_wp2_with fail
  go_loopw [9, 10] (fun v iv wr => RelOf b M S0 w3 v iv wr) (fun _ iv _ => M - (Lib.intOf iv).toNat)
  case atStart => exact ⟨1, Nat.le_refl _, .inl rfl, rfl, by simpa [more] using HOW.out, hb4⟩
  case round =>
  obtain ⟨k, hk1, hkM, rfl, hown, hb5⟩ := hrel
  have HOW5 := Lib.hid hown
  have HB5 := Lib.hid hb5
  have hs5 := hb5.size
  have c6 : wr.cell? ⟨b, 6, none⟩ = some (.int .i64 (M : Nat)) := by
    have := HW6.out wr hb5
    exact this
  clear hown hb5
  by_cases hlt : k < M
  · have q4 : decide ((k : Int) < (M : Int)) = true := decide_eq_true (by omega)
    have q4n : decide (k < M) = true := decide_eq_true hlt
    have q5 : IntKind.i64.wrap ((k : Int) + 1) = ((k + 1 : Nat) : Int) := wrap_succ hlt (by omega)
    have q6 : IntKind.i64.wrap ((1000 : Int) + (k : Int)) = 1000 + (k : Int) := wrap_ok (by unfold I64; omega)
    have hl9 : S0.length + (k - 1) ≤ 2000000 := by omega
    go_wp2_with (at_builtin; refine wpList_append_own _ rfl (.tmp 35) (.tmp 38) 37 rfl w3.heap.size 3 i0 (.int .i64 0) 1 8 Try.underlying37 hi0 hz0 hz1 hz2 rfl (by decide) _ (S0.length + (k - 1)) ((S0 ++ more k).map (Value.int .i64)) rfl (World.ownsRow.alloc HOW5.out _) ⟨wr.heap.size, 0, none⟩ 1 1 [.int .i64 (1000 + (k : Int))] rfl rfl (cell_one_new wr (.int .i64 (1000 + (k : Int))) _) (by intro u hu; rw [List.mem_singleton] at hu; subst hu; rfl) (by unfold maxLen; omega) (by omega) (by simp; omega) ?_; intro v4 w5 ho4 hg4 _; have HO4 := Lib.hid ho4; have HG4 := Lib.hid hg4; clear ho4 hg4)
    have HB6 := Lib.hid ((HB5.out.alloc hs5 _).grown HG4.out (by simp; omega) (fun j hj => (HOW5.out.lt j hj).1))
    go_roundw
    case rel => exact ⟨k + 1, by omega, .inr (by omega), rfl, by rw [more_succ hk1]; simpa [show S0.length + (k - 1) + 1 = S0.length + (k + 1 - 1) by omega] using HO4.out, HB6.out⟩
    case measure => simp only [Lib.intOf]; omega
  · have q4 : decide ((k : Int) < (M : Int)) = false := decide_eq_false (by omega)
    have q4n : decide (k < M) = false := decide_eq_false hlt
    have HMK := Lib.hid (show more k = more M from by
      rcases hkM with h | h
      · subst h
        have : M = 0 ∨ M = 1 := by omega
        rcases this with h | h <;> rw [h] <;> rfl
      · rw [show k = M by omega])
    have HLK := Lib.hid (show S0.length + (k - 1) = (S0 ++ more k).length by rw [List.length_append, more_len])
    go_wp2_with fail
    go_ret
    have h5 := HOW5.out
    rw [HLK.out, HMK.out] at h5
    exact ⟨_, S0 ++ more M, rfl, ownsRow_base_a h5 (by have := HB0.out.size; omega), HTL.out, HOF.out wr HB5.out⟩
end Go.Proofs.Ytecedbjkebdeaaa
