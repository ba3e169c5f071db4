/-
  A bundle of texts, one behind the other: MbD7, MbD8.
-/
import Derived.Test.YtjhecpkdpomkmaaGreatQU
namespace Go.Proofs.YtjhecpkdpomkmaaGreat
open Go.RowKit
set_option linter.unusedVariables false
set_option linter.unusedSimpArgs false
set_option maxRecDepth 100000

theorem CpS.keep {A p q : Nat} {W W' : World} {nv lv : Value} {N : Nat → ByteArray} {f : Nat → VT} (h : CpS A W nv p N lv q f) (hf : ∀ g, A ≤ g → W'.heap[g]? = W.heap[g]?) (hz : W.heap.size ≤ W'.heap.size) : CpS A W' nv p N lv q f :=
  ⟨own_keepM h.nm fun b _ e => hf b (h.nm.lt b e).1, h.got.keep hf hz, h.apart, h.rows, h.sz⟩
set_option maxHeartbeats 16000000 in
theorem comp_8 (B : Nat) (w : World) (g x o : Nat) (d : TB) (i : Nat) (k m : Int) (s : ByteArray) (nm : SL) (a : Option Addr) (n cap : Nat) (ch : Nat → VT) (hR : RAt B w g x o d i) (hB : B ≤ w.heap.size) (hd : d.good = true) (hk : (d.f i).kind = 8)
    (hx : VIn B w (.mk k m s nm a n cap ch)) (hn : n = nm.n) (hseq : seqGo (d.f i) nm (fun j t => (ch j).has d t) (d.f i).count = some nm.n)
    (hrec : ∀ j, j < n → ∀ t, t < d.n → (ch j).has d t = true → ∀ W, Below w.heap.size w W → Calls Tryz.prog 35 #[rV g (o + t * 12) o d.n d.cap, .agg (ch j).cells.toArray] W (CompOut W ((ch j).full d t))) :
    Calls Tryz.prog 35 #[rV g x o d.n d.cap, .agg (VT.mk k m s nm a n cap ch).cells.toArray] w (CompOut w ((VT.mk k m s nm a n cap ch).full d i)) := by
  have HPR := Lib.hid (show ∀ W, Below w.heap.size w W → _ from fun W hW => compParts_ok w.heap.size W g x o d i k m s nm a n cap ch ((hR.below (Below.refl _ _) hB).below hW (Nat.le_refl _)) hW.size hd ((hx.below (Below.refl _ _) hB).below hW (Nat.le_refl _)) hn hseq (fun j hj t ht hh W' hW' => hrec j hj t ht hh W' (hW.trans (hW'.mono hW.size))))
  have HVX := Lib.hid hx.1
  have HFULL := Lib.hid (show ∀ a1 y c1 N a2 c2 f, SeqR (d.f i) nm ⟨none, y, 0, N⟩ (fun x y t => (ch x).full d t (f y)) (fun k j y => leafOf (((d.f i).part k).d.f j) (f y)) (d.f i).count nm.n y → (VT.mk k m s nm a n cap ch).full d i (.mk k m s ⟨a1, y, c1, N⟩ a2 y c2 f) from fun a1 y c1 N a2 c2 f h => ⟨⟨a1, y, c1, N⟩, a2, y, c2, f, rfl, by
    rw [if_neg (by rw [hk]; decide), if_neg (by rw [hk]; decide), if_pos hk]
    exact ⟨rfl, seqR_congr h (fun _ _ => rfl) (fun _ _ _ _ h => h) (fun _ _ _ _ h => h)⟩⟩)
  subst hn
  rw [list5] at HPR ⊢
  generalize (VT.mk k m s nm a nm.n cap ch).full d i = FU at *
  unfold rV at HPR ⊢
  clear hrec hx hseq hd

  have hx0 := Bx.new w #[.pointer (some ⟨g, x, none⟩), .slice (some ⟨g, o, none⟩) d.n d.cap] 72
  have hx1 := hx0.alloc (.cells #[.int .i64 k, .int .i64 m, .string s, .slice nm.a nm.n nm.cap, .slice a nm.n cap] 26)
  have hx2 := hx1.alloc (.cells #[.int .i64 0, .int .i64 0, .string ⟨#[]⟩, .slice none 0 0, .slice none 0 0] 26)
  have hx3 := hx2.alloc (.cells #[.int .i64 k, .int .i64 m, .string s, .slice none 0 0, .slice none 0 0] 26)
  have hy1 := Bx.new (w.alloc (.cells #[.pointer (some ⟨g, x, none⟩), .slice (some ⟨g, o, none⟩) d.n d.cap] 72)) #[.int .i64 k, .int .i64 m, .string s, .slice nm.a nm.n nm.cap, .slice a nm.n cap] 26
  have hy2 := hy1.alloc (.cells #[.int .i64 0, .int .i64 0, .string ⟨#[]⟩, .slice none 0 0, .slice none 0 0] 26)
  have hy3 := hy2.alloc (.cells #[.int .i64 k, .int .i64 m, .string s, .slice none 0 0, .slice none 0 0] 26)
  have hz2 := (Bx.new ((w.alloc (.cells #[.pointer (some ⟨g, x, none⟩), .slice (some ⟨g, o, none⟩) d.n d.cap] 72)).alloc (.cells #[.int .i64 k, .int .i64 m, .string s, .slice nm.a nm.n nm.cap, .slice a nm.n cap] 26)) #[.int .i64 0, .int .i64 0, .string ⟨#[]⟩, .slice none 0 0, .slice none 0 0] 26).alloc (.cells #[.int .i64 k, .int .i64 m, .string s, .slice none 0 0, .slice none 0 0] 26)
  have hz3 := Bx.new (((w.alloc (.cells #[.pointer (some ⟨g, x, none⟩), .slice (some ⟨g, o, none⟩) d.n d.cap] 72)).alloc (.cells #[.int .i64 k, .int .i64 m, .string s, .slice nm.a nm.n nm.cap, .slice a nm.n cap] 26)).alloc (.cells #[.int .i64 0, .int .i64 0, .string ⟨#[]⟩, .slice none 0 0, .slice none 0 0] 26)) #[.int .i64 k, .int .i64 m, .string s, .slice none 0 0, .slice none 0 0] 26
  have hb0 := (Below.refl w.heap.size w).alloc (Nat.le_refl _) (.cells #[.pointer (some ⟨g, x, none⟩), .slice (some ⟨g, o, none⟩) d.n d.cap] 72)
  have hb1 := hb0.alloc hb0.size (.cells #[.int .i64 k, .int .i64 m, .string s, .slice nm.a nm.n nm.cap, .slice a nm.n cap] 26)
  have hb2 := hb1.alloc hb1.size (.cells #[.int .i64 0, .int .i64 0, .string ⟨#[]⟩, .slice none 0 0, .slice none 0 0] 26)
  have hb3 := hb2.alloc hb2.size (.cells #[.int .i64 k, .int .i64 m, .string s, .slice none 0 0, .slice none 0 0] 26)
  have g1 := (hR.cells (w := ((((w.alloc (.cells #[.pointer (some ⟨g, x, none⟩), .slice (some ⟨g, o, none⟩) d.n d.cap] 72)).alloc (.cells #[.int .i64 k, .int .i64 m, .string s, .slice nm.a nm.n nm.cap, .slice a nm.n cap] 26)).alloc (.cells #[.int .i64 0, .int .i64 0, .string ⟨#[]⟩, .slice none 0 0, .slice none 0 0] 26)).alloc (.cells #[.int .i64 k, .int .i64 m, .string s, .slice none 0 0, .slice none 0 0] 26))) (hb3.block g (Nat.lt_of_lt_of_le hR.lt hB))).1
  rw [hk] at g1
  have HB3 := Lib.hid hb3
  have HX0 := Lib.hid hx3
  have HY1 := Lib.hid hy3
  have HZ2 := Lib.hid hz2
  have HZ3 := Lib.hid hz3
  have v0 := hy2.cell 0 (v := .int .i64 k) rfl
  have v1 := hy2.cell 1 (v := .int .i64 m) rfl
  have v2 := hy2.cell 2 (v := .string s) rfl
  have p0 := hx3.cell 0 (v := .pointer (some ⟨g, x, none⟩)) rfl
  have p1 := hx3.cell 1 (v := .slice (some ⟨g, o, none⟩) d.n d.cap) rfl
  have u0 := hy3.cell 0 (v := .int .i64 k) rfl
  have u1 := hy3.cell 1 (v := .int .i64 m) rfl
  have u2 := hy3.cell 2 (v := .string s) rfl
  have u3 := hy3.cell 3 (v := .slice nm.a nm.n nm.cap) rfl
  have u4 := hy3.cell 4 (v := .slice a nm.n cap) rfl
  have HSZ := Lib.hid (show ((((w.alloc (.cells #[.pointer (some ⟨g, x, none⟩), .slice (some ⟨g, o, none⟩) d.n d.cap] 72)).alloc (.cells #[.int .i64 k, .int .i64 m, .string s, .slice nm.a nm.n nm.cap, .slice a nm.n cap] 26)).alloc (.cells #[.int .i64 0, .int .i64 0, .string ⟨#[]⟩, .slice none 0 0, .slice none 0 0] 26)).alloc (.cells #[.int .i64 k, .int .i64 m, .string s, .slice none 0 0, .slice none 0 0] 26)).heap.size = w.heap.size + 1 + 1 + 1 + 1 from by simp only [World.size_alloc])
  simp only [World.size_alloc] at v0 v1 v2 u0 u1 u2 u3 u4 HY1 HZ2 HZ3
  clear hx0 hx1 hx2 hx3 hy1 hy2 hy3 hz2 hz3 hb0 hb1 hb2 hb3 hR hB
  go_enter Tryz.func35, Tryz.ntmps35
  go_wp2_with (first
    | (refine wpList_store_new rfl 26 (.tmp 5) (.tmp 16) rfl 5 _ [.int .i64 k, .int .i64 m, .string s, .slice none 0 0, .slice none 0 0] rfl (by rfl) info_V (by simp [Value.oneCell']) rfl rfl ?_))

  refine (HPR.out _ HB3.out).mono ?_

  generalize ((((w.alloc (.cells #[.pointer (some ⟨g, x, none⟩), .slice (some ⟨g, o, none⟩) d.n d.cap] 72)).alloc (.cells #[.int .i64 k, .int .i64 m, .string s, .slice nm.a nm.n nm.cap, .slice a nm.n cap] 26)).alloc (.cells #[.int .i64 0, .int .i64 0, .string ⟨#[]⟩, .slice none 0 0, .slice none 0 0] 26)).alloc (.cells #[.int .i64 k, .int .i64 m, .string s, .slice none 0 0, .slice none 0 0] 26)) = W3 at *
  obtain ⟨b, hb⟩ : ∃ b, w.heap.size = b := ⟨_, rfl⟩
  have HBE := Lib.hid hb
  have HSZW := Lib.hid (show w.heap.size ≤ b + 3 by omega)
  rw [hb] at HX0 HY1 HZ2 HZ3 HSZ ⊢
  clear hb p0 p1 u0 u1 u2 u3 u4 v0 v1 v2 g1

  rintro e w4 ⟨nv, lv, y, N, f, rfl, hy, hcp, hsq, h4⟩
  obtain ⟨a1, c1, rfl, _, _⟩ := hcp.names (by omega)
  obtain ⟨a2, c2, rfl, _, _, _⟩ := hcp.got.row (by omega)
  have HCP := Lib.hid hcp
  have HSQ := Lib.hid hsq
  have HZ4 := Lib.hid (HZ3.out.below h4 (by rw [HSZ.out]; omega))
  have HZZ := Lib.hid (HZ2.out.below h4 (by rw [HSZ.out]; omega))
  have HB4 := Lib.hid (HB3.out.trans (h4.mono (by have := HSZ.out; have := HSZW.out; omega)))
  clear hcp hsq h4
  have o3 := HZ4.out.cell 3 (v := .slice none 0 0) rfl
  have o4 := HZ4.out.cell 4 (v := .slice none 0 0) rfl
  have o5 := frozenM HZ4.out 3
  have o6 := frozenM HZ4.out 4
  have HC9 := Lib.hid (show Bx ((w4.setCell ⟨b + 1 + 1 + 1, 3, none⟩ (.slice a1 y c1)).setCell ⟨b + 1 + 1 + 1, 4, none⟩ (.slice a2 y c2)) (b + 1 + 1 + 1) #[.int .i64 k, .int .i64 m, .string s, .slice a1 y c1, .slice a2 y c2] 26 from bx_fieldM (bx_fieldM HZ4.out 3 _) 4 _)
  have HZ9 := Lib.hid (bx_farM (b := b + 1 + 1 + 1) (j := 4) (v := .slice a2 y c2) (bx_farM (b := b + 1 + 1 + 1) (j := 3) (v := .slice a1 y c1) HZZ.out (by omega)) (by omega))
  have HB9 := Lib.hid (below_fieldM (b := b + 1 + 1 + 1) (j := 4) (v := .slice a2 y c2) (below_fieldM (b := b + 1 + 1 + 1) (j := 3) (v := .slice a1 y c1) HB4.out (by have := HBE.out; omega)) (by have := HBE.out; omega))
  have HC10 := Lib.hid (fun (w10 : World) (hz : w10.heap.size = ((w4.setCell ⟨b + 1 + 1 + 1, 3, none⟩ (.slice a1 y c1)).setCell ⟨b + 1 + 1 + 1, 4, none⟩ (.slice a2 y c2)).heap.size) (ho : ∀ j, j ≠ b + 1 + 1 → w10.heap[j]? = ((w4.setCell ⟨b + 1 + 1 + 1, 3, none⟩ (.slice a1 y c1)).setCell ⟨b + 1 + 1 + 1, 4, none⟩ (.slice a2 y c2)).heap[j]?) => HCP.out.keep (W' := w10) (fun q hq => (ho q (by have := HSZ.out; omega)).trans ((heap_fieldM (by have := HSZ.out; omega)).trans (heap_fieldM (by have := HSZ.out; omega)))) (by rw [hz, World.size_setCell, World.size_setCell]; exact Nat.le_refl _))
  go_wp2_with (first
    | (refine wpList_load_mid rfl 26 (.tmp 5) rfl (b + 1 + 1 + 1) 0 rfl [.int .i64 k, .int .i64 m, .string s, .slice a1 y c1, .slice a2 y c2] _ HC9.out.range Tryz.underlying26 rfl (by rw [info_V]; rfl) ?_)
    | (refine wpList_store_bx rfl 26 (.tmp 4) (.tmp 70) rfl 5 (b + 1 + 1) _ [.int .i64 k, .int .i64 m, .string s, .slice a1 y c1, .slice a2 y c2] HZ9.out (by rfl) (by rfl) info_V (by simp [Value.oneCell']) rfl rfl ?_; intro w10 hz10 hx10 hb10 ho10; have HX10 := Lib.hid hx10; have HK10 := Lib.hid (HC10.out w10 hz10 ho10); have HB10 := Lib.hid (HB9.out.trans (hb10.mono (by rw [HBE.out]; omega))); clear hz10 hx10 hb10 ho10))
  obtain ⟨a1', c1', e1, hsl, hrp1⟩ := HK10.out.names (by omega)
  obtain ⟨a2', c2', e2, hrow, hrp2, hvs⟩ := HK10.out.got.row (by omega)
  cases e1
  cases e2
  have hA : ∀ q, W3.heap.size + 2 ≤ q → w.heap.size ≤ q := fun q hq => by have := HSZ.out; have := HBE.out; omega
  refine bodyPost_ret (v := .agg #[.int .i64 k, .int .i64 m, .string s, .slice a1 y c1, .slice a2 y c2]) ?_ rfl ⟨.mk k m s ⟨a1, y, c1, N⟩ a2 y c2 f, rfl, ⟨⟨HVX.out.1, HVX.out.2.1, HVX.out.2.2.1, hsl⟩, hrow, fun i hi => (hvs i hi).1⟩, ⟨hrp1.mono hA, hrp2.mono hA, fun i hi => (hvs i hi).2.mono hA⟩, HFULL.out _ _ _ _ _ _ _ HSQ.out, HB10.out⟩
  exact results_cell_row (p := 4) rfl _ _ (b + 1 + 1) 26 _ (0, 0) _ rfl HX10.out Tryz.underlying26 rfl (by rw [info_V]; rfl)
set_option maxHeartbeats 4000000 in
theorem comp_ok : ∀ (v : VT) (B : Nat) (w : World) (g x o : Nat) (d : TB) (i : Nat), RAt B w g x o d i → B ≤ w.heap.size → d.good = true → VIn B w v → v.has d i = true →
    Calls Tryz.prog 35 #[rV g x o d.n d.cap, .agg v.cells.toArray] w (CompOut w (v.full d i))
  | .nil, _, _, _, _, _, _, _, _, _, _, hx, _ => hx.elim
  | .mk k m s nm a n cap ch, B, w, g, x, o, d, i, hR, hB, hd, hx, hh => by
    have hrec : ∀ j, j < n → ∀ t, t < d.n → (ch j).has d t = true → ∀ W, Below w.heap.size w W → Calls Tryz.prog 35 #[rV g (o + t * 12) o d.n d.cap, .agg (ch j).cells.toArray] W (CompOut W ((ch j).full d t)) := fun j hj t ht hh W hW =>
      comp_ok (ch j) w.heap.size W g (o + t * 12) o d t (((hR.below (Below.refl _ _) hB).below hW (Nat.le_refl _)).to ht) hW.size hd (((hx.below (Below.refl _ _) hB).below hW (Nat.le_refl _)).2.2 j hj) hh
    have hrow := TB.right_row (TB.good_right hd) hR.2.1
    rw [has_mk] at hh
    simp only [Bool.and_eq_true] at hh
    obtain ⟨_, hh⟩ := hh
    by_cases h9 : (d.f i).kind = 9
    · rw [h9] at hh
      simp only [DT.isSize, Bool.and_eq_true, decide_eq_true_eq] at hh
      have he := hrow.elem_t h9
      have h2 : ((d.f i).isSize n && allN (fun j => (ch j).has d (d.f i).elem.toNat) n) = true := by simpa [h9, DT.isSize] using hh
      simp only [DT.isSize, Bool.and_eq_true, decide_eq_true_eq] at h2
      exact comp_9 B w g x o d i k m s nm a n cap ch (d.f i).elem.toNat hR hB h9 hx h2.1.1 (by omega) he.2 fun j hj W hW => hrec j hj _ he.2 (allN_iff.1 h2.2 j hj) W hW
    · by_cases h10 : (d.f i).kind = 10
      · rw [h10] at hh
        have h2 : hasAltB d i s n ch = true := by simpa using hh
        unfold hasAltB at h2
        simp only [Bool.and_eq_true, decide_eq_true_eq] at h2
        obtain ⟨h3, h4, h5⟩ := h2
        have ht := FT.ok_t (hrow.part h3).2
        exact comp_10 B w g x o d i k m s nm a n cap ch ((d.f i).part ((d.f i).fnd s)).t.toNat hR hB h10 h3 hx h4 (by omega) ht.2 fun W hW => hrec 0 (by omega) _ ht.2 h5 W hW
      · by_cases h8 : (d.f i).kind = 8
        · rw [h8] at hh
          have h2 : hasPtB d i nm n ch = true := by simpa using hh
          unfold hasPtB at h2
          simp only [Bool.and_eq_true, decide_eq_true_eq] at h2
          exact comp_8 B w g x o d i k m s nm a n cap ch hR hB hd h8 hx h2.1 h2.2 hrec
        · refine (comp_leaf B w g x o d i k m s nm a n cap ch hR hB h8 h9 h10).mono fun e w' h => ?_
          exact ⟨leafV k m s, h.1, leafV_in _ _ hx.1.1 hx.1.2.1 hx.1.2.2.1, leafV_blk _ _ _ _, leafV_full h8 h9 h10, h.2⟩
end Go.Proofs.YtjhecpkdpomkmaaGreat

namespace Go.Proofs.YtjhecpkdpomkmaaGreat
open Go.RowKit
set_option linter.unusedVariables false
set_option linter.unusedSimpArgs false
set_option maxRecDepth 100000

def zeroL : List Value := [.int .i64 0, .int .i64 0, .string ⟨#[]⟩, .slice none 0 0, .slice none 0 0]
/-- what 'Canon' answers -/
def CanonOut (w : World) (d : TB) (v : VT) (e : Ending) (w' : World) : Prop :=
  Below w.heap.size w w' ∧ ((chk d v = 0 ∧ ∃ v', e = .returned (.tuple #[.agg v'.cells.toArray, .int .i64 0]) ∧ VIn w'.heap.size w' v' ∧ VBlk (w.heap.size ≤ ·) v' ∧ v.full d 0 v') ∨
    (chk d v ≠ 0 ∧ e = .returned (.tuple #[.agg zeroL.toArray, .int .i64 (chk d v)])))
theorem five_heap {w : World} {c g : Nat} {u0 u1 u2 u3 u4 : Value} (h : g ≠ c) : (((((w.setCell ⟨c, 0, none⟩ u0).setCell ⟨c, 1, none⟩ u1).setCell ⟨c, 2, none⟩ u2).setCell ⟨c, 3, none⟩ u3).setCell ⟨c, 4, none⟩ u4).heap[g]? = w.heap[g]? :=
  (heap_fieldM h).trans ((heap_fieldM h).trans ((heap_fieldM h).trans ((heap_fieldM h).trans (heap_fieldM h))))
set_option maxHeartbeats 16000000 in
theorem canon_ok (B : Nat) (w : World) (d : TB) (v : VT) (hd : TBIn B w d) (hv : VIn B w v) (hB : B ≤ w.heap.size) (hs : ∀ i, i < d.n → (d.f i).set.n ≤ 1000) :
    Calls Tryz.prog 13 #[.slice d.a d.n d.cap, .agg v.cells.toArray] w (CanonOut w d v) := by
  have hb0 := (Below.refl w.heap.size w).alloc (Nat.le_refl _) (.cells v.cells.toArray 26)
  have hb1 := hb0.alloc hb0.size (.cells zeroL.toArray 26)
  have hxa := (Bx.new w v.cells.toArray 26).alloc (.cells zeroL.toArray 26)
  have hxb := Bx.new (w.alloc (.cells v.cells.toArray 26)) zeroL.toArray 26
  rw [World.size_alloc] at hxb
  have HSZ := Lib.hid (show ((w.alloc (.cells v.cells.toArray 26)).alloc (.cells zeroL.toArray 26)).heap.size = w.heap.size + 1 + 1 from by simp only [World.size_alloc])
  have HD := Lib.hid (fun (W : World) (hW : Below w.heap.size w W) => (hd.below (Below.refl _ _) hB).below hW (Nat.le_refl _))
  have HV := Lib.hid (fun (W : World) (hW : Below w.heap.size w W) => (hv.below (Below.refl _ _) hB).below hW (Nat.le_refl _))
  have HC := Lib.hid (fun (W : World) (hW : Below w.heap.size w W) => check_ok w.heap.size W d v (HD.out W hW) (HV.out W hW) hW.size hs)
  have HGO := Lib.hid (show chk d v = 0 → ∃ g o, d.a = some ⟨g, o, none⟩ ∧ 0 < d.n ∧ ∀ W, Below w.heap.size w W → Calls Tryz.prog 35 #[rV g o o d.n d.cap, .agg v.cells.toArray] W (CompOut W (v.full d 0)) from fun h0 => by
    obtain ⟨hg, _, hh⟩ := chk_zero.1 h0
    have hn := TB.right_n (TB.good_right hg)
    obtain ⟨g, o, hT⟩ := (HD.out w (Below.refl _ _)).at hn.1
    refine ⟨g, o, hT.1, hn.1, fun W hW => ?_⟩
    have := comp_ok v w.heap.size W g (o + 0 * 12) o d 0 ((hT.below hW (Nat.le_refl _)).at hn.1) hW.size hg (HV.out W hW) hh
    rwa [Nat.zero_mul, Nat.add_zero] at this)
  have HRT := Lib.hid (fun (W : World) (g o : Nat) (hn : 0 < d.n) => rowOf_ok W g o d.n d.cap 0 hn)
  obtain ⟨k0, m0, s0, nm0, a0, n0, cap0, c0, hv0⟩ := vin_mk hv
  have hcl : v.cells = [.int .i64 k0, .int .i64 m0, .string s0, .slice nm0.a nm0.n nm0.cap, .slice a0 n0 cap0] := by rw [hv0, list5]
  unfold CanonOut
  generalize v.full d 0 = FU at *
  generalize chk d v = q at *
  rw [hcl] at hxa hxb hb1 HSZ HC HGO ⊢
  unfold zeroL at hxa hxb hb1 HSZ ⊢
  have HXA := Lib.hid hxa
  have HXB := Lib.hid hxb
  have HB1 := Lib.hid hb1
  have c0 := hxa.cell 0 (v := .int .i64 k0) rfl
  have c1 := hxa.cell 1 (v := .int .i64 m0) rfl
  have c2 := hxa.cell 2 (v := .string s0) rfl
  have c3 := hxa.cell 3 (v := .slice nm0.a nm0.n nm0.cap) rfl
  have c4 := hxa.cell 4 (v := .slice a0 n0 cap0) rfl
  clear hb0 hb1 hxa hxb hd hv hB hs HD HV hcl hv0
  by_cases hq : q = 0
  · subst hq
    obtain ⟨g, o, ha, hn, hcomp⟩ := HGO.out rfl
    have HCM := Lib.hid hcomp
    have HR := Lib.hid (show ∀ W : World, Calls Tryz.prog 34 #[.slice (some ⟨g, o, none⟩) d.n d.cap, .int .i64 0] W fun e w' => e = .returned (.agg #[.pointer (some ⟨g, o, none⟩), .slice (some ⟨g, o, none⟩) d.n d.cap]) ∧ Below W.heap.size W w' from fun W => by
      have h := HRT.out W g o hn
      unfold rV at h
      rw [Nat.zero_mul, Nat.add_zero] at h
      exact h)
    unfold rV at HCM
    rw [ha] at HC ⊢
    clear HGO HRT hcomp ha hn
    go_enter Tryz.func13, Tryz.ntmps13
    go_wp2_with fail
    refine (HC.out _ HB1.out).mono ?_
    generalize (w.alloc (.cells #[.int .i64 k0, .int .i64 m0, .string s0, .slice nm0.a nm0.n nm0.cap, .slice a0 n0 cap0] 26)).alloc (.cells #[.int .i64 0, .int .i64 0, .string ⟨#[]⟩, .slice none 0 0, .slice none 0 0] 26) = W1 at *
    rintro e w2 ⟨rfl, h2⟩
    obtain ⟨b, hb⟩ : ∃ b, w.heap.size = b := ⟨_, rfl⟩
    have HBE := Lib.hid hb
    have HSZW := Lib.hid (show w.heap.size ≤ b + 1 + 1 by omega)
    rw [hb] at HXA HXB HSZ ⊢
    have HB2 := Lib.hid (show Below (b + 1 + 1) W1 w2 from by rw [HSZ.out] at h2; exact h2)
    clear h2 hb c0 c1 c2 c3 c4
    have HS := Lib.hid (show ∀ W, Below (b + 1 + 1) W1 W → (W.cell? ⟨b, 0, none⟩ = some (.int .i64 k0) ∧ W.cell? ⟨b, 1, none⟩ = some (.int .i64 m0) ∧ W.cell? ⟨b, 2, none⟩ = some (.string s0) ∧ W.cell? ⟨b, 3, none⟩ = some (.slice nm0.a nm0.n nm0.cap) ∧ W.cell? ⟨b, 4, none⟩ = some (.slice a0 n0 cap0)) from fun W hW => by
      have h1 := HXA.out.below hW (by omega)
      exact ⟨h1.cell 0 rfl, h1.cell 1 rfl, h1.cell 2 rfl, h1.cell 3 rfl, h1.cell 4 rfl⟩)
    have HZ := Lib.hid (show ∀ W, Below (b + 1 + 1) W1 W → Bx W (b + 1) #[.int .i64 0, .int .i64 0, .string ⟨#[]⟩, .slice none 0 0, .slice none 0 0] 26 from fun W hW => HXB.out.below hW (by omega))
    have HLE := Lib.hid (show ∀ W, Below (b + 1 + 1) W1 W → b + 1 + 1 ≤ W.heap.size from fun W hW => by have := hW.size; rw [HSZ.out] at this; exact this)
    go_wp2_with fail
    obtain ⟨e1, e2, e3, e4, e5⟩ := HS.out _ HB2.out
    have HBX0 := Lib.hid (Below.drew HB2.out)
    go_region_with (first
      | (go_at_call 34; (refine (HR.out _).mono ?_); rintro e w4 ⟨rfl, h4⟩; have HBX1 := Lib.hid (HBX0.out.trans (h4.mono (HLE.out _ HBX0.out))); clear h4; obtain ⟨e21, e22, e23, e24, e25⟩ := HS.out _ HBX1.out)
      | (go_at_call 35; (refine (HCM.out _ (HB1.out.trans (HBX1.out.mono HSZW.out))).mono ?_); rintro e w5 ⟨v1, rfl, hvi, hvb, hfu, h5⟩; obtain ⟨k1, m1, s1, nm1, a1, n1, cap1, ch1, rfl⟩ := vin_mk hvi; rw [list5]; have HBX2 := Lib.hid (HBX1.out.trans (h5.mono (HLE.out _ HBX1.out))); have HL1 := Lib.hid (HLE.out _ HBX1.out); have HV1 := Lib.hid hvi; have HVB := Lib.hid hvb; have HFU := Lib.hid hfu; clear h5 hvi hvb hfu; have z0 := (HZ.out _ HBX2.out).cell 0 (v := .int .i64 0) rfl; have z1 := (HZ.out _ HBX2.out).cell 1 (v := .int .i64 0) rfl; have z2 := (HZ.out _ HBX2.out).cell 2 (v := .string ⟨#[]⟩) rfl; have z3 := (HZ.out _ HBX2.out).cell 3 (v := .slice none 0 0) rfl; have z4 := (HZ.out _ HBX2.out).cell 4 (v := .slice none 0 0) rfl; have y0 := frozenM (HZ.out _ HBX2.out) 0; have y1 := frozenM (HZ.out _ HBX2.out) 1; have y2 := frozenM (HZ.out _ HBX2.out) 2; have y3 := frozenM (HZ.out _ HBX2.out) 3; have y4 := frozenM (HZ.out _ HBX2.out) 4))
    all_goals (
      have HX9 := Lib.hid (show Bx (((((w5.setCell ⟨b + 1, 0, none⟩ (.int .i64 k1)).setCell ⟨b + 1, 1, none⟩ (.int .i64 m1)).setCell ⟨b + 1, 2, none⟩ (.string s1)).setCell ⟨b + 1, 3, none⟩ (.slice nm1.a nm1.n nm1.cap)).setCell ⟨b + 1, 4, none⟩ (.slice a1 n1 cap1)) (b + 1) #[.int .i64 k1, .int .i64 m1, .string s1, .slice nm1.a nm1.n nm1.cap, .slice a1 n1 cap1] 26 from bx_fieldM (bx_fieldM (bx_fieldM (bx_fieldM (bx_fieldM (HZ.out _ HBX2.out) 0 _) 1 _) 2 _) 3 _) 4 _)
      have HB5 := Lib.hid (HB1.out.trans (HBX2.out.mono HSZW.out))
      have hb : w.heap.size ≤ b + 1 := by have := HBE.out; omega
      have HB9 := Lib.hid (below_fieldM (b := b + 1) (j := 4) (v := .slice a1 n1 cap1) (below_fieldM (b := b + 1) (j := 3) (v := .slice nm1.a nm1.n nm1.cap) (below_fieldM (b := b + 1) (j := 2) (v := .string s1) (below_fieldM (b := b + 1) (j := 1) (v := .int .i64 m1) (below_fieldM (b := b + 1) (j := 0) (v := .int .i64 k1) HB5.out hb) hb) hb) hb) hb)
      have HV9 := Lib.hid (VIn.frame (P := (w4.heap.size ≤ ·)) (W' := ((((w5.setCell ⟨b + 1, 0, none⟩ (.int .i64 k1)).setCell ⟨b + 1, 1, none⟩ (.int .i64 m1)).setCell ⟨b + 1, 2, none⟩ (.string s1)).setCell ⟨b + 1, 3, none⟩ (.slice nm1.a nm1.n nm1.cap)).setCell ⟨b + 1, 4, none⟩ (.slice a1 n1 cap1)) (B' := (((((w5.setCell ⟨b + 1, 0, none⟩ (.int .i64 k1)).setCell ⟨b + 1, 1, none⟩ (.int .i64 m1)).setCell ⟨b + 1, 2, none⟩ (.string s1)).setCell ⟨b + 1, 3, none⟩ (.slice nm1.a nm1.n nm1.cap)).setCell ⟨b + 1, 4, none⟩ (.slice a1 n1 cap1)).heap.size) (fun q _ hp => five_heap (by have : w4.heap.size ≤ q := hp; have := HL1.out; omega)) (by simp) HV1.out HVB.out)
      clear e1 e2 e3 e4 e5 e21 e22 e23 e24 e25 z0 z1 z2 z3 z4 y0 y1 y2 y3 y4 hb
      go_wp2_with fail
      refine bodyPost_ret (v := .tuple #[.agg #[.int .i64 k1, .int .i64 m1, .string s1, .slice nm1.a nm1.n nm1.cap, .slice a1 n1 cap1], .int .i64 0]) ?_ rfl ⟨HB9.out, .inl ⟨by first | trivial | rfl, _, rfl, HV9.out, HVB.out.mono fun q hq => by show w.heap.size ≤ q; have : w4.heap.size ≤ q := hq; have := HL1.out; have := HBE.out; omega, HFU.out⟩⟩
      exact results_cell_tmp (p := 4) (q := 5) rfl _ _ (b + 1) 26 _ (0, 0) _ rfl HX9.out Tryz.underlying26 rfl (by rw [info_V]; rfl))
  · have hqb : (q != 0) = true := bne_iff_ne.2 hq
    have hqb2 : (q == 0) = false := beq_eq_false_iff_ne.2 hq
    have HQ := Lib.hid hq
    clear HGO HRT hq
    go_enter Tryz.func13, Tryz.ntmps13
    go_wp2_with fail
    refine (HC.out _ HB1.out).mono ?_
    generalize (w.alloc (.cells #[.int .i64 k0, .int .i64 m0, .string s0, .slice nm0.a nm0.n nm0.cap, .slice a0 n0 cap0] 26)).alloc (.cells #[.int .i64 0, .int .i64 0, .string ⟨#[]⟩, .slice none 0 0, .slice none 0 0] 26) = W1 at *
    rintro e w2 ⟨rfl, h2⟩
    have HB2 := Lib.hid (HB1.out.trans (h2.mono HB1.out.size))
    have HX2 := Lib.hid (HXB.out.below h2 (by rw [HSZ.out]; omega))
    clear h2 c0 c1 c2 c3 c4
    go_wp2_with (refine wpList_store_bx rfl 26 (.tmp 4) (.tmp 12) rfl 5 (w.heap.size + 1) _ [.int .i64 0, .int .i64 0, .string ⟨#[]⟩, .slice none 0 0, .slice none 0 0] HX2.out (by rfl) (by rfl) info_V (by simp [Value.oneCell']) rfl rfl ?_; intro w5 hz5 hx5 hb5 ho5; have HX5 := Lib.hid hx5; have HB5 := Lib.hid (HB2.out.trans (hb5.mono (by omega))); clear hz5 hx5 hb5 ho5)
    refine bodyPost_ret (v := .tuple #[.agg #[.int .i64 0, .int .i64 0, .string ⟨#[]⟩, .slice none 0 0, .slice none 0 0], .int .i64 q]) ?_ rfl ⟨HB5.out, .inr ⟨HQ.out, rfl⟩⟩
    exact results_cell_tmp (p := 4) (q := 5) rfl _ _ (w.heap.size + 1) 26 _ (0, 0) _ rfl HX5.out Tryz.underlying26 rfl (by rw [info_V]; rfl)
end Go.Proofs.YtjhecpkdpomkmaaGreat
