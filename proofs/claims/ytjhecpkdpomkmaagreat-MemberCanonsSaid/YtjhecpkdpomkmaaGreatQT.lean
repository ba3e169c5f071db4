/-
  A bundle of texts, one behind the other: MbD2.
-/
import Derived.Test.YtjhecpkdpomkmaaGreatQR
namespace Go.Proofs.YtjhecpkdpomkmaaGreat
open Go.RowKit
set_option linter.unusedVariables false
set_option linter.unusedSimpArgs false
set_option maxRecDepth 100000

theorem heap_fieldM {w : World} {b j : Nat} {v : Value} {k : Nat} (h : k ≠ b) : (w.setCell ⟨b, j, none⟩ v).heap[k]? = w.heap[k]? := Below.heap_setCell w ⟨b, j, none⟩ v k h
theorem bx_fieldM {w : World} {b : Nat} {cs : Array Value} {t : TypeId} (h : Bx w b cs t) (j : Nat) (v : Value) : Bx (w.setCell ⟨b, j, none⟩ v) b (cs.setIfInBounds j v) t := by
  rw [setCell_eq_setRow w b j cs t (0, 0) v h]
  exact setRow_heap w b cs _ t _ h
theorem bx_farM {w : World} {g b j : Nat} {cs : Array Value} {t : TypeId} {v : Value} (h : Bx w g cs t) (hg : g ≠ b) : Bx (w.setCell ⟨b, j, none⟩ v) g cs t := (heap_fieldM hg).trans h
theorem below_fieldM {B : Nat} {w w' : World} {b j : Nat} {v : Value} (h : Below B w w') (hb : B ≤ b) : Below B w (w'.setCell ⟨b, j, none⟩ v) :=
  ⟨h.os, h.tape, h.output, by simpa using h.size, fun k hk => (heap_fieldM (by omega)).trans (h.block k hk)⟩
theorem frozenM {W : World} {g : Nat} {cs : Array Value} {t : TypeId} (h : Bx W g cs t) (j : Nat) : W.frozen? ⟨g, j, none⟩ = false := by
  unfold Bx at h
  simp [World.frozen?, h]
/-- what 'completed' answers -/
def CompOut (w : World) (P : VT → Prop) (e : Ending) (w' : World) : Prop := ∃ v', e = .returned (.agg v'.cells.toArray) ∧ VIn w'.heap.size w' v' ∧ VBlk (w.heap.size ≤ ·) v' ∧ P v' ∧ Below w.heap.size w w'
/-- what stands behind it: a row of one value, stored into the whole -/
theorem comp_fin {w7 w10 : World} {b A q : Nat} {k m : Int} {s : ByteArray} {v1 : VT} {T : TypeId} {u : Value} (hk : I64 k) (hm : I64 m) (hs : s.size ≤ 140737488355328) (hvi : VIn w7.heap.size w7 v1) (hvb : VBlk (A ≤ ·) v1) (hA : b + 3 < A) (hA7 : A ≤ w7.heap.size)
    (hz : w10.heap.size = ((w7.alloc (.cells v1.cells.toArray T)).setCell ⟨b + 1 + 1 + 1, q, none⟩ u).heap.size) (ho : ∀ j, j ≠ b + 1 + 1 → w10.heap[j]? = ((w7.alloc (.cells v1.cells.toArray T)).setCell ⟨b + 1 + 1 + 1, q, none⟩ u).heap[j]?) :
    VIn w10.heap.size w10 (.mk k m s noSL (some ⟨w7.heap.size, 0, none⟩) 1 1 fun _ => v1) ∧ VBlk (b ≤ ·) (.mk k m s noSL (some ⟨w7.heap.size, 0, none⟩) 1 1 fun _ => v1) := by
  have hz2 : w10.heap.size = w7.heap.size + 1 := by rw [hz, World.size_setCell, World.size_alloc]
  refine ⟨⟨⟨hk, hm, hs, noSL_in _ _⟩, ⟨Nat.le_refl _, by omega, fun h => (by cases h), fun _ => ⟨w7.heap.size, 0, rfl, by omega, fun i hi j u hj => ?_⟩⟩, fun i hi => VIn.frame (P := (A ≤ ·)) (fun g hg hp => ?_) (by omega) hvi hvb⟩, fun h => absurd h (Nat.lt_irrefl _), fun _ g o ha => (by cases ha; exact by show b ≤ w7.heap.size; omega), fun i hi => hvb.mono fun g hg => (by show b ≤ g; have : A ≤ g := hg; omega)⟩
  · obtain rfl : i = 0 := by omega
    have h1 : w10.heap[w7.heap.size]? = (w7.alloc (.cells v1.cells.toArray T)).heap[w7.heap.size]? := (ho _ (by omega)).trans (heap_fieldM (by omega))
    rw [Nat.zero_mul, Nat.add_zero, Nat.zero_add]
    exact (World.cell?_of_block (w := w7.alloc (.cells v1.cells.toArray T)) (a := ⟨w7.heap.size, j, none⟩) h1).trans ((Bx.new w7 v1.cells.toArray T).cell j (by simpa using hj))
  · exact (ho g (by have : A ≤ g := hp; omega)).trans ((heap_fieldM (by have : A ≤ g := hp; omega)).trans (Below.heap_alloc w7 _ g hg))
set_option maxHeartbeats 16000000 in
theorem comp_10 (B : Nat) (w : World) (g x o : Nat) (d : TB) (i : Nat) (k m : Int) (s : ByteArray) (nm : SL) (a : Option Addr) (n cap : Nat) (ch : Nat → VT) (t : Nat) (hR : RAt B w g x o d i) (hB : B ≤ w.heap.size) (hk : (d.f i).kind = 10) (hf : (d.f i).fnd s < (d.f i).count)
    (hx : VIn B w (.mk k m s nm a n cap ch)) (hn : n = 1) (ht : ((d.f i).part ((d.f i).fnd s)).t = (t : Int)) (htn : t < d.n)
    (hrec : ∀ W, Below w.heap.size w W → Calls Tryz.prog 35 #[rV g (o + t * 12) o d.n d.cap, .agg (ch 0).cells.toArray] W (CompOut W ((ch 0).full d t))) :
    Calls Tryz.prog 35 #[rV g x o d.n d.cap, .agg (VT.mk k m s nm a n cap ch).cells.toArray] w (CompOut w ((VT.mk k m s nm a n cap ch).full d i)) := by
  have HRB := Lib.hid (fun (W : World) (hW : Below w.heap.size w W) => (hR.below (Below.refl _ _) hB).below hW (Nat.le_refl _))
  have HNM := Lib.hid (show ∀ (W : World), Below w.heap.size w W → Calls Tryz.prog 53 #[rV g x o d.n d.cap, .string s] W fun e w' => e = .returned (.tuple #[.agg ((d.f i).part ((d.f i).fnd s)).cells.toArray, .bool true]) ∧ Below W.heap.size W w' from fun W hW => by
    have := named_ok w.heap.size W g x o d i s (HRB.out W hW) hW.size
    rw [decide_eq_true hf, show (d.f i).fld s = ((d.f i).part ((d.f i).fnd s)).cells from if_pos hf] at this
    exact this)
  have HOF := Lib.hid (fun (W : World) => of_ok W g x o d.n d.cap t ((d.f i).part ((d.f i).fnd s)) ht htn)
  have HFULL := Lib.hid (show ∀ v1 A, (ch 0).full d t v1 → (VT.mk k m s nm a n cap ch).full d i (.mk k m s noSL A 1 1 fun _ => v1) from fun v1 A h => ⟨noSL, A, 1, 1, _, rfl, by
    rw [if_neg (by rw [hk]; decide), if_pos hk]
    exact ⟨rfl, rfl, by rw [show ((d.f i).part ((d.f i).fnd s)).t.toNat = t by omega]; exact h⟩⟩)
  have HREC := Lib.hid hrec
  have HVX := Lib.hid hx.1
  subst hn
  obtain ⟨gx, ox, hix1, hgx, hrd⟩ := vRow_range hx.2.1 Nat.zero_lt_one
  have hix : ∀ w, (Instr.indexAt 24 (.slice a 1 cap) (.int .i64 0)).run Tryz.prog w = .ok (.pointer (some ⟨gx, ox, none⟩)) w := hix1
  clear hix1
  have HEL := Lib.hid (show ∀ W, Below w.heap.size w W → W.rangeAt gx ox (ch 0).cells from fun W hW => hrd W (hW.block gx (Nat.lt_of_lt_of_le hgx hB)))
  obtain ⟨k0, m0, s0, nm0, a0, n0, cap0, c0, hv0⟩ := vin_mk (hx.2.2 0 Nat.zero_lt_one)
  rw [hv0] at HEL HREC HFULL
  rw [list5] at HEL HREC ⊢
  rw [list4] at HOF HNM
  generalize (VT.mk k m s nm a 1 cap ch).full d i = FU at *
  generalize (ch 0).full d t = F0 at *
  generalize ((d.f i).part ((d.f i).fnd s)).name = pn at *
  generalize hpt : ((d.f i).part ((d.f i).fnd s)).t = pt at *
  generalize ((d.f i).part ((d.f i).fnd s)).opt = po at *
  generalize ((d.f i).part ((d.f i).fnd s)).d.a = pda at *
  generalize ((d.f i).part ((d.f i).fnd s)).d.n = pdn at *
  generalize ((d.f i).part ((d.f i).fnd s)).d.cap = pdc at *
  clear hpt
  obtain rfl : pt = (t : Int) := ht
  unfold rV at HNM HOF HREC ⊢
  clear hrec hrd hgx hf hx HRB hv0

  have hx0 := Bx.new w #[.pointer (some ⟨g, x, none⟩), .slice (some ⟨g, o, none⟩) d.n d.cap] 72
  have hx1 := hx0.alloc (.cells #[.int .i64 k, .int .i64 m, .string s, .slice nm.a nm.n nm.cap, .slice a 1 cap] 26)
  have hx2 := hx1.alloc (.cells #[.int .i64 0, .int .i64 0, .string ⟨#[]⟩, .slice none 0 0, .slice none 0 0] 26)
  have hx3 := hx2.alloc (.cells #[.int .i64 k, .int .i64 m, .string s, .slice none 0 0, .slice none 0 0] 26)
  have hy1 := Bx.new (w.alloc (.cells #[.pointer (some ⟨g, x, none⟩), .slice (some ⟨g, o, none⟩) d.n d.cap] 72)) #[.int .i64 k, .int .i64 m, .string s, .slice nm.a nm.n nm.cap, .slice a 1 cap] 26
  have hy2 := hy1.alloc (.cells #[.int .i64 0, .int .i64 0, .string ⟨#[]⟩, .slice none 0 0, .slice none 0 0] 26)
  have hy3 := hy2.alloc (.cells #[.int .i64 k, .int .i64 m, .string s, .slice none 0 0, .slice none 0 0] 26)
  have hz2 := (Bx.new ((w.alloc (.cells #[.pointer (some ⟨g, x, none⟩), .slice (some ⟨g, o, none⟩) d.n d.cap] 72)).alloc (.cells #[.int .i64 k, .int .i64 m, .string s, .slice nm.a nm.n nm.cap, .slice a 1 cap] 26)) #[.int .i64 0, .int .i64 0, .string ⟨#[]⟩, .slice none 0 0, .slice none 0 0] 26).alloc (.cells #[.int .i64 k, .int .i64 m, .string s, .slice none 0 0, .slice none 0 0] 26)
  have hz3 := Bx.new (((w.alloc (.cells #[.pointer (some ⟨g, x, none⟩), .slice (some ⟨g, o, none⟩) d.n d.cap] 72)).alloc (.cells #[.int .i64 k, .int .i64 m, .string s, .slice nm.a nm.n nm.cap, .slice a 1 cap] 26)).alloc (.cells #[.int .i64 0, .int .i64 0, .string ⟨#[]⟩, .slice none 0 0, .slice none 0 0] 26)) #[.int .i64 k, .int .i64 m, .string s, .slice none 0 0, .slice none 0 0] 26
  have hb0 := (Below.refl w.heap.size w).alloc (Nat.le_refl _) (.cells #[.pointer (some ⟨g, x, none⟩), .slice (some ⟨g, o, none⟩) d.n d.cap] 72)
  have hb1 := hb0.alloc hb0.size (.cells #[.int .i64 k, .int .i64 m, .string s, .slice nm.a nm.n nm.cap, .slice a 1 cap] 26)
  have hb2 := hb1.alloc hb1.size (.cells #[.int .i64 0, .int .i64 0, .string ⟨#[]⟩, .slice none 0 0, .slice none 0 0] 26)
  have hb3 := hb2.alloc hb2.size (.cells #[.int .i64 k, .int .i64 m, .string s, .slice none 0 0, .slice none 0 0] 26)
  have g1 := (hR.cells (w := ((((w.alloc (.cells #[.pointer (some ⟨g, x, none⟩), .slice (some ⟨g, o, none⟩) d.n d.cap] 72)).alloc (.cells #[.int .i64 k, .int .i64 m, .string s, .slice nm.a nm.n nm.cap, .slice a 1 cap] 26)).alloc (.cells #[.int .i64 0, .int .i64 0, .string ⟨#[]⟩, .slice none 0 0, .slice none 0 0] 26)).alloc (.cells #[.int .i64 k, .int .i64 m, .string s, .slice none 0 0, .slice none 0 0] 26))) (hb3.block g (Nat.lt_of_lt_of_le hR.lt hB))).1
  rw [hk] at g1
  have HB3 := Lib.hid hb3
  have HX0 := Lib.hid hx3
  have HY1 := Lib.hid hy3
  have HZ2 := Lib.hid hz2
  have HZ3 := Lib.hid hz3
  have v0 := hy2.cell 0 (v := .int .i64 k) rfl
  have v1 := hy2.cell 1 (v := .int .i64 m) rfl
  have v2 := hy2.cell 2 (v := .string s) rfl
  have p0 := hx3.cell 0 (v := .pointer (some ⟨g, x, none⟩)) rfl
  have p1 := hx3.cell 1 (v := .slice (some ⟨g, o, none⟩) d.n d.cap) rfl
  have u2 := hy3.cell 2 (v := .string s) rfl
  have u4 := hy3.cell 4 (v := .slice a 1 cap) rfl
  have HSZ := Lib.hid (show ((((w.alloc (.cells #[.pointer (some ⟨g, x, none⟩), .slice (some ⟨g, o, none⟩) d.n d.cap] 72)).alloc (.cells #[.int .i64 k, .int .i64 m, .string s, .slice nm.a nm.n nm.cap, .slice a 1 cap] 26)).alloc (.cells #[.int .i64 0, .int .i64 0, .string ⟨#[]⟩, .slice none 0 0, .slice none 0 0] 26)).alloc (.cells #[.int .i64 k, .int .i64 m, .string s, .slice none 0 0, .slice none 0 0] 26)).heap.size = w.heap.size + 1 + 1 + 1 + 1 from by simp only [World.size_alloc])
  simp only [World.size_alloc] at v0 v1 v2 u2 u4 HY1 HZ2 HZ3
  clear hx0 hx1 hx2 hx3 hy1 hy2 hy3 hz2 hz3 hb0 hb1 hb2 hb3 hR hB
  go_enter Tryz.func35, Tryz.ntmps35
  go_wp2_with (first
    | (refine wpList_store_new rfl 26 (.tmp 5) (.tmp 16) rfl 5 _ [.int .i64 k, .int .i64 m, .string s, .slice none 0 0, .slice none 0 0] rfl (by rfl) info_V (by simp [Value.oneCell']) rfl rfl ?_))

  refine (HNM.out _ HB3.out).mono ?_

  generalize ((((w.alloc (.cells #[.pointer (some ⟨g, x, none⟩), .slice (some ⟨g, o, none⟩) d.n d.cap] 72)).alloc (.cells #[.int .i64 k, .int .i64 m, .string s, .slice nm.a nm.n nm.cap, .slice a 1 cap] 26)).alloc (.cells #[.int .i64 0, .int .i64 0, .string ⟨#[]⟩, .slice none 0 0, .slice none 0 0] 26)).alloc (.cells #[.int .i64 k, .int .i64 m, .string s, .slice none 0 0, .slice none 0 0] 26)) = W3 at *
  obtain ⟨b, hb⟩ : ∃ b, w.heap.size = b := ⟨_, rfl⟩
  have HBE := Lib.hid hb
  have HSZW := Lib.hid (show w.heap.size ≤ b + 3 by omega)
  rw [hb] at HX0 HY1 HZ2 HZ3 HSZ ⊢
  clear hb p0 p1 u2 u4 v0 v1 v2 g1

  rintro e w4 ⟨rfl, h4⟩
  have HBY4 := Lib.hid (show Below (b + 3) W3 (w4.alloc (.cells #[.string pn, .int .i64 (t : Nat), .bool po, .slice pda pdn pdc] 48)) from (h4.mono (by rw [HSZ.out]; omega)).alloc (by have := h4.size; rw [HSZ.out] at this; omega) _)
  have HZ4 := Lib.hid ((HZ3.out.below h4 (by rw [HSZ.out]; omega)).alloc (.cells #[.string pn, .int .i64 (t : Nat), .bool po, .slice pda pdn pdc] 48))
  have HP4 := Lib.hid (Bx.new w4 #[.string pn, .int .i64 (t : Nat), .bool po, .slice pda pdn pdc] 48)
  have HLT := Lib.hid (show b + 4 ≤ w4.heap.size from by have := h4.size; rw [HSZ.out] at this; omega)
  clear h4
  go_upto_region 11 with (refine wpList_store_new rfl 48 (.tmp 8) (.tmp 48) rfl 4 _ [.string pn, .int .i64 (t : Nat), .bool po, .slice pda pdn pdc] rfl rfl (by kernel_rfl) (by simp [Value.oneCell']) rfl rfl ?_)
  have HS8 := Lib.hid (show (w4.alloc (.cells #[.string pn, .int .i64 (t : Nat), .bool po, .slice pda pdn pdc] 48)).heap.size = w4.heap.size + 1 from World.size_alloc ..)
  generalize w4.alloc (.cells #[.string pn, .int .i64 (t : Nat), .bool po, .slice pda pdn pdc] 48) = W8 at *
  obtain ⟨b8, hb8⟩ : ∃ b8, w4.heap.size = b8 := ⟨_, rfl⟩
  rw [hb8] at HP4 HS8 HLT ⊢
  clear hb8
  have HCE := Lib.hid (show ∀ W, Below w.heap.size w W → (W.cell? ⟨gx, ox, none⟩ = some (.int .i64 k0) ∧ W.cell? ⟨gx, ox + 1, none⟩ = some (.int .i64 m0) ∧ W.cell? ⟨gx, ox + 2, none⟩ = some (.string s0) ∧ W.cell? ⟨gx, ox + 3, none⟩ = some (.slice nm0.a nm0.n nm0.cap) ∧ W.cell? ⟨gx, ox + 4, none⟩ = some (.slice a0 n0 cap0)) from fun W hW => ⟨HEL.out W hW 0 _ rfl, HEL.out W hW 1 _ rfl, HEL.out W hW 2 _ rfl, HEL.out W hW 3 _ rfl, HEL.out W hW 4 _ rfl⟩)
  have HBW8 := Lib.hid (HB3.out.trans (HBY4.out.mono HSZW.out))
  have HSZ8 := Lib.hid (show w.heap.size ≤ b8 + 1 from by have := HSZW.out; have := HLT.out; omega)
  have HSZ9 := Lib.hid (show b + 3 ≤ b8 + 1 from by have := HLT.out; omega)
  have HBXC := Lib.hid (show ∀ W, Below (b8 + 1) W8 W → Bx W (b + 1 + 1 + 1) #[.int .i64 k, .int .i64 m, .string s, .slice none 0 0, .slice none 0 0] 26 from fun W hW => HZ4.out.below hW (by have := HLT.out; omega))
  have HBXZ := Lib.hid (show ∀ W, Below (b8 + 1) W8 W → Bx W (b + 1 + 1) #[.int .i64 0, .int .i64 0, .string ⟨#[]⟩, .slice none 0 0, .slice none 0 0] 26 from fun W hW => (HZ2.out.below HBY4.out (by omega)).below hW (by have := HLT.out; omega))
  have HS := Lib.hid (show ∀ W, Below (b8 + 1) W8 W → (W.cell? ⟨b, 0, none⟩ = some (.pointer (some ⟨g, x, none⟩)) ∧ W.cell? ⟨b, 1, none⟩ = some (.slice (some ⟨g, o, none⟩) d.n d.cap) ∧ W.cell? ⟨b + 1, 0, none⟩ = some (.int .i64 k) ∧ W.cell? ⟨b + 1, 1, none⟩ = some (.int .i64 m) ∧ W.cell? ⟨b + 1, 2, none⟩ = some (.string s) ∧ W.cell? ⟨b + 1, 3, none⟩ = some (.slice nm.a nm.n nm.cap) ∧ W.cell? ⟨b + 1, 4, none⟩ = some (.slice a 1 cap)) from fun W hW => by
    have h1 := (HX0.out.below HBY4.out (by omega)).below hW (by have := HLT.out; omega)
    have h2 := (HY1.out.below HBY4.out (by omega)).below hW (by have := HLT.out; omega)
    exact ⟨h1.cell 0 rfl, h1.cell 1 rfl, h2.cell 0 rfl, h2.cell 1 rfl, h2.cell 2 rfl, h2.cell 3 rfl, h2.cell 4 rfl⟩)
  have HSP := Lib.hid (show ∀ W, Below (b8 + 1) W8 W → (W.cell? ⟨b8, 0, none⟩ = some (.string pn) ∧ W.cell? ⟨b8, 1, none⟩ = some (.int .i64 (t : Nat)) ∧ W.cell? ⟨b8, 2, none⟩ = some (.bool po) ∧ W.cell? ⟨b8, 3, none⟩ = some (.slice pda pdn pdc)) from fun W hW => by
    have h3 := HP4.out.below hW (by omega)
    exact ⟨h3.cell 0 rfl, h3.cell 1 rfl, h3.cell 2 rfl, h3.cell 3 rfl⟩)
  obtain ⟨c1, c2, c3, c4, c5, c6, c7⟩ := HS.out _ (Below.refl _ _)
  obtain ⟨f1, f2, f3, f4⟩ := HSP.out _ (Below.refl _ _)
  obtain ⟨e1, e2, e3, e4, e5⟩ := HCE.out _ HBW8.out
  have HBX0 := Lib.hid (Below.drew (Below.refl (b8 + 1) W8))
  go_region_with (first
        | (go_at_call 54; (refine (HOF.out _).mono ?_); rintro e w6 ⟨rfl, h6⟩; have HBX1 := Lib.hid (HBX0.out.trans (h6.mono (by have h := HBX0.out.size; rw [HS8.out] at h; exact h))); clear h6; obtain ⟨c21, c22, c23, c24, c25, c26, c27⟩ := HS.out _ HBX1.out; obtain ⟨e21, e22, e23, e24, e25⟩ := HCE.out _ (HBW8.out.trans (HBX1.out.mono HSZ8.out)))
        | (go_at_call 35; (refine (HREC.out _ (HBW8.out.trans (HBX1.out.mono HSZ8.out))).mono ?_); rintro e w7 ⟨v1, rfl, hvi, hvb, hfu, h7⟩; obtain ⟨k1, m1, s1, nm1, a1, n1, cap1, ch1, rfl⟩ := vin_mk hvi; rw [list5]; have HBX2 := Lib.hid (HBX1.out.trans (h7.mono (by have h := HBX1.out.size; rw [HS8.out] at h; exact h))); have HA7 := Lib.hid h7.size; have HVI := Lib.hid hvi; have HVB := Lib.hid hvb; have HFU := Lib.hid hfu; clear h7 hvi hvb hfu; have HO := Lib.hid ((HBXC.out _ HBX2.out).alloc (.cells #[.int .i64 k1, .int .i64 m1, .string s1, .slice nm1.a nm1.n nm1.cap, .slice a1 n1 cap1] 26)); have o4 := HO.out.cell 4 (v := .slice none 0 0) rfl; have o5 := frozenM HO.out 4))
  all_goals (
    have HC9 := Lib.hid (show Bx ((w7.alloc (.cells #[.int .i64 k1, .int .i64 m1, .string s1, .slice nm1.a nm1.n nm1.cap, .slice a1 n1 cap1] 26)).setCell ⟨b + 1 + 1 + 1, 4, none⟩ (.slice (some ⟨w7.heap.size, 0, none⟩) 1 1)) (b + 1 + 1 + 1) #[.int .i64 k, .int .i64 m, .string s, .slice none 0 0, .slice (some ⟨w7.heap.size, 0, none⟩) 1 1] 26 from bx_fieldM HO.out 4 _)
    have HZ9 := Lib.hid (bx_farM (j := 4) (v := .slice (some ⟨w7.heap.size, 0, none⟩) 1 1) ((HBXZ.out _ HBX2.out).alloc (.cells #[.int .i64 k1, .int .i64 m1, .string s1, .slice nm1.a nm1.n nm1.cap, .slice a1 n1 cap1] 26)) (show b + 1 + 1 ≠ b + 1 + 1 + 1 by omega))
    have HB9 := Lib.hid (below_fieldM (b := b + 1 + 1 + 1) (j := 4) (v := .slice (some ⟨w7.heap.size, 0, none⟩) 1 1) ((HBW8.out.trans (HBX2.out.mono HSZ8.out)).alloc (HBW8.out.trans (HBX2.out.mono HSZ8.out)).size (.cells #[.int .i64 k1, .int .i64 m1, .string s1, .slice nm1.a nm1.n nm1.cap, .slice a1 n1 cap1] 26)) (by have := HBE.out; omega))
    have HFI := Lib.hid (fun w10 hz ho => comp_fin (w10 := w10) (b := b) (q := 4) (T := 26) (u := .slice (some ⟨w7.heap.size, 0, none⟩) 1 1) HVX.out.1 HVX.out.2.1 HVX.out.2.2.1 HVI.out HVB.out (by have h := HBX1.out.size; rw [HS8.out] at h; have := HLT.out; omega) HA7.out hz ho)
    rw [list5] at HFI
    clear o4 o5 c1 c2 c3 c4 c5 c6 c7 f1 f2 f3 f4 e1 e2 e3 e4 e5 c21 c22 c23 c24 c25 c26 c27 e21 e22 e23 e24 e25 HS HSP HCE
    go_wp2_with (first
      | (refine wpList_load_mid rfl 26 (.tmp 5) rfl (b + 1 + 1 + 1) 0 rfl [.int .i64 k, .int .i64 m, .string s, .slice none 0 0, .slice (some ⟨w7.heap.size, 0, none⟩) 1 1] _ HC9.out.range Tryz.underlying26 rfl (by rw [info_V]; rfl) ?_)
      | (refine wpList_store_bx rfl 26 (.tmp 4) (.tmp 70) rfl 5 (b + 1 + 1) _ [.int .i64 k, .int .i64 m, .string s, .slice none 0 0, .slice (some ⟨w7.heap.size, 0, none⟩) 1 1] HZ9.out (by rfl) (by rfl) info_V (by simp [Value.oneCell']) rfl rfl ?_; intro w10 hz10 hx10 hb10 ho10; have HX10 := Lib.hid hx10; have HF10 := Lib.hid (HFI.out w10 hz10 ho10); have HB10 := Lib.hid (HB9.out.trans (hb10.mono (by rw [HBE.out]; omega))); clear hz10 hx10 hb10 ho10))
    refine bodyPost_ret (v := .agg #[.int .i64 k, .int .i64 m, .string s, .slice none 0 0, .slice (some ⟨w7.heap.size, 0, none⟩) 1 1]) ?_ rfl ⟨_, rfl, HF10.out.1, by rw [HBE.out]; exact HF10.out.2, HFULL.out _ _ HFU.out, HB10.out⟩
    exact results_cell_row (p := 4) rfl _ _ (b + 1 + 1) 26 _ (0, 0) _ rfl HX10.out Tryz.underlying26 rfl (by rw [info_V]; rfl))
end Go.Proofs.YtjhecpkdpomkmaaGreat
