/-
  Package tags: 'refer'.
-/
import Derived.Test.YtecedbjkebdeaaaTgF3
import Derived.Test.YtecedbjkebdeaaaTgG3
import Derived.Deep.RegionHeld3
import Derived.Deep.RegionLaw
namespace Go.Proofs.Ytecedbjkebdeaaa
open Go.RowKit Go.Maps Go.WideElems Go.ChangeMaps Go.MapKept Go.Shelf
set_option linter.unusedVariables false
set_option linter.unusedSimpArgs false
set_option maxRecDepth 100000

/-- what 'refer' does -/
def GL.refer (l : EL) (G : GL) (n : Nat) (s : ByteArray) : GL := match l.fnd s with
  | none => G
  | some p => (G.reach p).edge p n
set_option maxHeartbeats 8000000 in
theorem refer_ok (B : Nat) (w : World) (b : Nat) (l : EL) (G : GL) (V : GV) (n : Nat) (s : ByteArray) (h : GAt B w b l G V) (hB : B ≤ w.heap.size) (hl : EOk B w l) (hs : s.size ≤ 9223372036854775807) (hln : l.n ≤ G.m) (hn : n ≤ 1000000000)
    (hS : ∀ p, ¬ G.live l p → (G.S p).l = []) (hR : G.R.length ≤ 1000000000) (hE : ∀ p, (G.E p).length ≤ 1000000000) :
    Calls Try.prog 40 #[.pointer (some ⟨b, 0, none⟩), .int .i64 (n : Nat), .string s] w fun e w' => e = .returned (.tuple #[]) ∧ ∃ V', GAt B w' b l (G.refer l n s) V' ∧ Mv V.own w V'.own w' := by
  have HF := Lib.hid (find_ok B w b l G _ V s h hB hl hs)
  unfold GL.refer
  cases hf : l.fnd s with
  | none =>
    go_enter Try.func40, Try.ntmps40
    go_wp2_with fail
    refine HF.out.mono ?_
    rintro e w1 ⟨⟨c, rfl, _⟩, V1, h1, hm1⟩
    have H1 := Lib.hid h1
    have HM := Lib.hid hm1
    clear h1 hm1
    rw [hf]
    go_wp2_with fail
    go_end0
    exact ⟨rfl, V1, H1.out, HM.out⟩
  | some p =>
    have hp := (EL.fst_lt hf).1
    have hpm : p < G.m := by omega
    obtain ⟨i0, hi0, hz0, hz1, hz2⟩ := info_parts info_i64
    go_enter Try.func40, Try.ntmps40
    go_wp2_with fail
    refine HF.out.mono ?_
    rintro e w1 ⟨⟨c, rfl, hc⟩, V1, h1, hm1⟩
    obtain rfl := hc p hf
    have hB1 : B ≤ w1.heap.size := Nat.le_trans hB hm1.size
    have HRC := Lib.hid (reach_ok B w1 b l G V1 p h1 hB1 hpm hp (hS p) hR)
    have HM := Lib.hid hm1
    clear h1 hm1 hc HF
    rw [hf]
    go_wp2_with fail
    refine HRC.out.mono ?_
    rintro e w2 ⟨rfl, V2, h2, hm2⟩
    have HM2 := Lib.hid (HM.out.trans hm2)
    have hB2 : B ≤ w2.heap.size := Nat.le_trans hB1 hm2.size
    have hpm2 : p < (G.reach p).m := hpm
    obtain ⟨gv, vcap, hvv, hvB, hvlt, hix, hcell⟩ := own_read 58 37 Try.underlying58 (by kernel_rfl) Try.sizeOf37 h2.v hpm2
    have cp := hcell p _ (range_at hpm2)
    have hev := h2.eds p hpm2
    have HEV := Lib.hid (show w2.ownsRow B 3 1 (V2.ev p) (G.E p).length ((G.E p).map nv) from hev.1)
    have HEO := Lib.hid hev.2
    have hvo : V2.own gv = .vr := h2.vo gv (by rw [hvv]; rfl)
    have hvrow := h2.v
    rw [hvv] at hvrow
    have HROW := Lib.hid hvrow
    have HNE := Lib.hid (show ∀ k, (V2.ev p).ownBlock = some k → k ≠ gv from fun k hk e => by have := hev.2 k hk; rw [e, hvo] at this; cases this)
    have hEp := hE p
    have HH2 := Lib.hid h2
    have HVV := Lib.hid hvv
    have hcb : ∀ W' : World, W'.heap[b]? = w2.heap[b]? → W'.cell? ⟨b, 4, none⟩ = some (.slice (some ⟨gv, 0, none⟩) (G.reach p).m vcap) := fun W' hW => (World.cell?_of_block (w := w2) (a := ⟨b, 4, none⟩) hW).trans (h2.bx.cell 4 (by rw [← hvv]; rfl))
    have HCB := Lib.hid hcb
    have c4 := hcb w2 rfl
    clear h2 hm2 hcell hvrow hev HRC HM hcb
    have HEVD := Lib.hid (fun o => (show (w2.alloc o).drew.ownsRow B 3 1 (V2.ev p) (G.E p).length ((G.E p).map nv) from World.ownsRow.alloc (w := w2) HEV.out o))
    have HNW := Lib.hid (show ∀ j u, [nv n][j]? = some u → (w2.alloc (.cells #[.int .i64 (n : Nat)] 3)).drew.cell? ((⟨w2.heap.size, 0, none⟩ : Addr).add j) = some u from cell_one_new w2 (nv n) 3)
    go_wp2_with fail
    clear c4 cp
    have HSW := Lib.hid (show ∀ W' : World, W'.heap[b]? = w2.heap[b]? → W'.heap[gv]? = w2.heap[gv]? → W'.cell? ⟨b, 4, none⟩ = some (.slice (some ⟨gv, 0, none⟩) (G.reach p).m vcap) ∧ W'.cell? ⟨gv, p, none⟩ = some (V2.ev p) from fun W' h1 h3 => ⟨HCB.out W' h1, by
      have h4 := HROW.out.cells (g := gv) rfl p _ (range_at hpm2)
      rw [Addr.add_mid, Nat.zero_add] at h4
      exact (World.cell?_of_block (w := w2) (a := ⟨gv, p, none⟩) h3).trans h4⟩)
    have HFZ := Lib.hid (show ∀ W' : World, W'.heap[gv]? = w2.heap[gv]? → W'.frozen? ⟨gv, p, none⟩ = false from fun W' h3 => (World.frozen?_of_block (w := w2) (a := ⟨gv, p, none⟩) h3).trans (own_frozen HROW.out p))
    have hblt := HH2.out.bx.lt
    have HAB := Lib.hid (Below.heap_alloc w2 (.cells #[.int .i64 (n : Nat)] 3) b hblt)
    have HAG := Lib.hid (Below.heap_alloc w2 (.cells #[.int .i64 (n : Nat)] 3) gv hvlt)
    have HBN := Lib.hid (show ∀ k, (V2.ev p).ownBlock = some k → k ≠ b from fun k hk e => by have h1 := HEO.out k hk; rw [e, HH2.out.ob] at h1; cases h1)
    have cpa := (HSW.out _ HAB.out HAG.out).2
    have cp0 := (HSW.out w2 rfl rfl).2
    have HCS := Lib.hid (show ∀ (W' : World) (v : Value), W'.heap[b]? = w2.heap[b]? → (W'.setCell ⟨gv, p, none⟩ v).cell? ⟨b, 4, none⟩ = some (.slice (some ⟨gv, 0, none⟩) (G.reach p).m vcap) from fun W' v h1 => HCB.out _ ((heap_field (fun e => by rw [← e, HH2.out.ob] at hvo; cases hvo)).trans h1))
    have c4a := HCB.out _ HAB.out
    have c40 := HCB.out w2 rfl
    have HFIN := Lib.hid (show ∀ (g cap : Nat) (w4 : World), w4.ownsRow B 3 1 (.slice (some ⟨g, 0, none⟩) ((G.E p).length + 1) cap) ((G.E p).length + 1) ((G.E p).map nv ++ [nv n]) → (w2.alloc (.cells #[.int .i64 (n : Nat)] 3)).drew.grownBy w4 (V2.ev p).ownBlock → ((V2.ev p).ownBlock = some g ∨ g = w2.heap.size + 1) → g < w4.heap.size →
        ∃ V', GAt B (w4.setCell ⟨gv, p, none⟩ (.slice (some ⟨g, 0, none⟩) ((G.E p).length + 1) cap)) b l ((G.reach p).edge p n) V' ∧ Mv V.own w V'.own (w4.setCell ⟨gv, p, none⟩ (.slice (some ⟨g, 0, none⟩) ((G.E p).length + 1) cap)) from fun g cap w4 h1 h30 h4 h5 => by
      have h3 : (w2.alloc (.cells #[.int .i64 (n : Nat)] 3)).grownBy w4 (V2.ev p).ownBlock := ⟨h30.os, h30.tape, h30.output, h30.size, h30.block⟩
      have ha := GAtL.alloc HH2.out (.cells #[.int .i64 (n : Nat)] 3)
      have hgr := Grew.of (own := V2.own) (ρ := .v p) h3 HEO.out (by rcases h4 with h | h; exact .inl h; exact .inr (by rw [h]; simp)) h5
      obtain ⟨h6, h7⟩ := ha.pushE (n := n) (v' := .slice (some ⟨g, 0, none⟩) ((G.E p).length + 1) cap) (by simp; omega) hpm2 hgr HVV.out (fun k hk => by cases hk; rfl) h1
      exact ⟨_, h6, HM2.out.trans ((Mv.alloc _ _ _ (fun k hk => (HH2.out.lo k hk).2)).trans h7)⟩)
    go_region_law (refine step_append_lies _ (by rfl) (.tmp 29) (.tmp 31) 37 (by rfl) B 3 i0 (.int .i64 0) 1 8 Try.underlying37 hi0 hz0 hz1 hz2 rfl (by decide) (V2.ev p) (G.E p).length ((G.E p).map nv) (by rfl) (HEVD.out _) ⟨w2.heap.size, 0, none⟩ 1 1 [nv n] (by rfl) rfl HNW.out (nv_one n) (by decide) (by unfold maxLen; omega) (by omega) (by simp; omega) (w2.heap.size + 1) (by simp) ?_; intro g cap w4 ho4 hg4 hat4 hlt4; have HO4 := Lib.hid ho4; have HG4 := Lib.hid hg4; have HT4 := Lib.hid hat4; have HL4 := Lib.hid hlt4; have HB4 := Lib.hid ((hg4.block b (by simp; omega) (fun e => HBN.out b e.symm rfl)).trans HAB.out); have HV4 := Lib.hid ((hg4.block gv (by simp; omega) (fun e => HNE.out gv e.symm rfl)).trans HAG.out); have f4 := HFZ.out w4 HV4.out; have cv4 := (HSW.out w4 HB4.out HV4.out).2; have c44 := HCB.out w4 HB4.out; clear ho4 hg4 hat4 hlt4)
    all_goals go_wp2_with fail
    all_goals go_end0
    all_goals exact ⟨rfl, HFIN.out g cap w4 HO4.out HG4.out HT4.out HL4.out⟩
end Go.Proofs.Ytecedbjkebdeaaa
