/-
  A bundle of texts, one behind the other: MbD4, MbD5.
-/
import Derived.Test.YtjhecpkdpomkmaaGreatQT
import Derived.Test.YtjhecpkdpomkmaaGreatQR
import Derived.Deep.RegionLaw
namespace Go.Proofs.YtjhecpkdpomkmaaGreat
open Go.RowKit
set_option linter.unusedVariables false
set_option linter.unusedSimpArgs false
set_option maxRecDepth 100000

def zeroV : Value := .agg #[.int .i64 0, .int .i64 0, .string ⟨#[]⟩, .slice none 0 0, .slice none 0 0]
theorem info_Vz : (Tryz.prog.info? 26).map (fun i => (i.zero, i.size, i.bytes)) = some (some zeroV, 5, 80) := by kernel_rfl
theorem info_Vz' : ∃ i0, Tryz.prog.info? 26 = some i0 ∧ i0.zero = some zeroV ∧ i0.size = 5 ∧ i0.bytes = 80 := by
  have h := info_Vz
  cases hi : Tryz.prog.info? 26 with
  | none => rw [hi] at h; cases h
  | some i0 =>
    rw [hi] at h
    simp only [Option.map_some, Option.some.injEq, Prod.mk.injEq] at h
    exact ⟨i0, rfl, h.1, h.2.1, h.2.2⟩
def RelC9 (W3 : World) (b : Nat) (k m : Int) (s : ByteArray) (n : Nat) (F : Nat → VT → Prop) (iv : Value) (wr : World) : Prop :=
  ∃ (j : Nat) (v : Value) (f : Nat → VT), j ≤ n ∧ iv = .int .i64 (j : Nat) ∧ Bx wr (b + 1 + 1 + 1) #[.int .i64 k, .int .i64 m, .string s, .slice none 0 0, v] 26 ∧ GotV (b + 4) wr v j f ∧ (∀ i, i < j → F i (f i)) ∧ Below (b + 3) W3 wr
/-- one more -/
theorem got_step {W3 wr w5 w6 w8 : World} {b : Nat} {k m : Int} {s : ByteArray} {v : Value} {j : Nat} {f : Nat → VT} {x : VT} {g cap : Nat}
    (hbx : Bx wr (b + 1 + 1 + 1) #[.int .i64 k, .int .i64 m, .string s, .slice none 0 0, v] 26) (hgot : GotV (b + 4) wr v j f) (hb3 : Below (b + 3) W3 wr) (hb4 : b + 4 ≤ wr.heap.size)
    (h5 : wr.heap.size ≤ w5.heap.size) (h6 : Below wr.heap.size wr w6) (hx : VIn w6.heap.size w6 x) (hxb : VBlk (w5.heap.size ≤ ·) x)
    (ho : w8.ownsRow (b + 4) 26 5 (.slice (some ⟨g, 0, none⟩) (j + 1) cap) (j + 1) (flatV f j ++ x.cells))
    (hg : (w6.alloc (.cells x.cells.toArray 26)).grownBy w8 v.ownBlock) (hat : v.ownBlock = some g ∨ g = w6.heap.size + 1) :
    Bx w8 (b + 1 + 1 + 1) #[.int .i64 k, .int .i64 m, .string s, .slice none 0 0, v] 26 ∧
    Bx (w8.setCell ⟨b + 1 + 1 + 1, 4, none⟩ (.slice (some ⟨g, 0, none⟩) (j + 1) cap)) (b + 1 + 1 + 1) #[.int .i64 k, .int .i64 m, .string s, .slice none 0 0, .slice (some ⟨g, 0, none⟩) (j + 1) cap] 26 ∧
    GotV (b + 4) (w8.setCell ⟨b + 1 + 1 + 1, 4, none⟩ (.slice (some ⟨g, 0, none⟩) (j + 1) cap)) (.slice (some ⟨g, 0, none⟩) (j + 1) cap) (j + 1) (fun i => if i < j then f i else x) ∧
    Below (b + 3) W3 (w8.setCell ⟨b + 1 + 1 + 1, 4, none⟩ (.slice (some ⟨g, 0, none⟩) (j + 1) cap)) := by
  have h7 : Below wr.heap.size wr (w6.alloc (.cells x.cells.toArray 26)) := h6.alloc h6.size _
  have hlt := hgot.1.lt
  have hbx7 := hbx.below h7 (by omega)
  have hne : ∀ q, q < b + 4 → some q ≠ v.ownBlock := fun q hq e => by have := (hlt q e.symm).1; omega
  have hbx8 : Bx w8 (b + 1 + 1 + 1) #[.int .i64 k, .int .i64 m, .string s, .slice none 0 0, v] 26 := (hg.block _ hbx7.lt (hne _ (by omega))).trans hbx7
  have hsz : (w6.alloc (.cells x.cells.toArray 26)).heap.size = w6.heap.size + 1 := World.size_alloc ..
  have hgv := (hgot.below h7).grow (x := x) ((hx.below ((Below.refl w6.heap.size w6).alloc (Nat.le_refl _) (.cells x.cells.toArray 26)) (Nat.le_refl _)).below (Below.refl _ _) (by rw [hsz]; omega))
    (hxb.mono fun q hq => ⟨by have : w5.heap.size ≤ q := hq; omega, fun e => by have : w5.heap.size ≤ q := hq; have := (hlt q e.symm).2; omega⟩) ho hg (by rw [hsz]; exact hat)
  have hb8 : Below (b + 3) W3 w8 := ⟨hg.os.trans (h7.os.trans hb3.os), hg.tape.trans (h7.tape.trans hb3.tape), hg.output.trans (h7.output.trans hb3.output), Nat.le_trans hb3.size (Nat.le_trans h7.size hg.size), fun q hq => (hg.block q (by have := h7.size; omega) (hne q (by omega))).trans ((h7.block q (by omega)).trans (hb3.block q hq))⟩
  exact ⟨hbx8, bx_fieldM hbx8 4 _, hgv.field (by omega) _, below_fieldM hb8 (by omega)⟩
set_option maxHeartbeats 32000000 in
theorem comp_9 (B : Nat) (w : World) (g x o : Nat) (d : TB) (i : Nat) (k m : Int) (s : ByteArray) (nm : SL) (a : Option Addr) (n cap : Nat) (ch : Nat → VT) (t : Nat) (hR : RAt B w g x o d i) (hB : B ≤ w.heap.size) (hk : (d.f i).kind = 9)
    (hx : VIn B w (.mk k m s nm a n cap ch)) (hn : n ≤ 1048576) (ht : (d.f i).elem = (t : Int)) (htn : t < d.n)
    (hrec : ∀ j, j < n → ∀ W, Below w.heap.size w W → Calls Tryz.prog 35 #[rV g (o + t * 12) o d.n d.cap, .agg (ch j).cells.toArray] W (CompOut W ((ch j).full d t))) :
    Calls Tryz.prog 35 #[rV g x o d.n d.cap, .agg (VT.mk k m s nm a n cap ch).cells.toArray] w (CompOut w ((VT.mk k m s nm a n cap ch).full d i)) := by
  obtain ⟨i0, hi0, hz0, hz1, hz2⟩ := info_Vz'
  have HRB := Lib.hid (fun (W : World) (hW : Below w.heap.size w W) => (hR.below (Below.refl _ _) hB).below hW (Nat.le_refl _))
  have HELM := Lib.hid (fun (W : World) (hW : Below w.heap.size w W) => elem_ok w.heap.size W g x o d i t (HRB.out W hW) hW.size ht htn)
  have HREC := Lib.hid hrec
  have HVX := Lib.hid hx.1
  have HIX := Lib.hid (fun (j : Nat) (hj : j < n) => vRow_range hx.2.1 hj)
  have HBB := Lib.hid hB
  have HVI := Lib.hid (fun (j : Nat) (hj : j < n) => vin_mk (hx.2.2 j hj))
  have HFULL := Lib.hid (show ∀ A C f, (∀ j, j < n → (ch j).full d t (f j)) → (VT.mk k m s nm a n cap ch).full d i (.mk k m s noSL A n C f) from fun A C f h => ⟨noSL, A, n, C, _, rfl, by
    rw [if_pos hk]
    exact ⟨rfl, rfl, by rw [show (d.f i).elem.toNat = t by omega]; exact h⟩⟩)
  rw [list5]
  obtain ⟨FF, hFF⟩ : ∃ FF : Nat → VT → Prop, (fun j => (ch j).full d t) = FF := ⟨_, rfl⟩
  have HFF := Lib.hid (show ∀ j y, (ch j).full d t y = FF j y from fun j y => by rw [← hFF])
  generalize (VT.mk k m s nm a n cap ch).full d i = FU at *
  unfold rV at HELM HREC ⊢
  clear hrec hx HRB hFF ht

  have hx0 := Bx.new w #[.pointer (some ⟨g, x, none⟩), .slice (some ⟨g, o, none⟩) d.n d.cap] 72
  have hx1 := hx0.alloc (.cells #[.int .i64 k, .int .i64 m, .string s, .slice nm.a nm.n nm.cap, .slice a n cap] 26)
  have hx2 := hx1.alloc (.cells #[.int .i64 0, .int .i64 0, .string ⟨#[]⟩, .slice none 0 0, .slice none 0 0] 26)
  have hx3 := hx2.alloc (.cells #[.int .i64 k, .int .i64 m, .string s, .slice none 0 0, .slice none 0 0] 26)
  have hy1 := Bx.new (w.alloc (.cells #[.pointer (some ⟨g, x, none⟩), .slice (some ⟨g, o, none⟩) d.n d.cap] 72)) #[.int .i64 k, .int .i64 m, .string s, .slice nm.a nm.n nm.cap, .slice a n cap] 26
  have hy2 := hy1.alloc (.cells #[.int .i64 0, .int .i64 0, .string ⟨#[]⟩, .slice none 0 0, .slice none 0 0] 26)
  have hy3 := hy2.alloc (.cells #[.int .i64 k, .int .i64 m, .string s, .slice none 0 0, .slice none 0 0] 26)
  have hz2 := (Bx.new ((w.alloc (.cells #[.pointer (some ⟨g, x, none⟩), .slice (some ⟨g, o, none⟩) d.n d.cap] 72)).alloc (.cells #[.int .i64 k, .int .i64 m, .string s, .slice nm.a nm.n nm.cap, .slice a n cap] 26)) #[.int .i64 0, .int .i64 0, .string ⟨#[]⟩, .slice none 0 0, .slice none 0 0] 26).alloc (.cells #[.int .i64 k, .int .i64 m, .string s, .slice none 0 0, .slice none 0 0] 26)
  have hz3 := Bx.new (((w.alloc (.cells #[.pointer (some ⟨g, x, none⟩), .slice (some ⟨g, o, none⟩) d.n d.cap] 72)).alloc (.cells #[.int .i64 k, .int .i64 m, .string s, .slice nm.a nm.n nm.cap, .slice a n cap] 26)).alloc (.cells #[.int .i64 0, .int .i64 0, .string ⟨#[]⟩, .slice none 0 0, .slice none 0 0] 26)) #[.int .i64 k, .int .i64 m, .string s, .slice none 0 0, .slice none 0 0] 26
  have hb0 := (Below.refl w.heap.size w).alloc (Nat.le_refl _) (.cells #[.pointer (some ⟨g, x, none⟩), .slice (some ⟨g, o, none⟩) d.n d.cap] 72)
  have hb1 := hb0.alloc hb0.size (.cells #[.int .i64 k, .int .i64 m, .string s, .slice nm.a nm.n nm.cap, .slice a n cap] 26)
  have hb2 := hb1.alloc hb1.size (.cells #[.int .i64 0, .int .i64 0, .string ⟨#[]⟩, .slice none 0 0, .slice none 0 0] 26)
  have hb3 := hb2.alloc hb2.size (.cells #[.int .i64 k, .int .i64 m, .string s, .slice none 0 0, .slice none 0 0] 26)
  have g1 := (hR.cells (w := ((((w.alloc (.cells #[.pointer (some ⟨g, x, none⟩), .slice (some ⟨g, o, none⟩) d.n d.cap] 72)).alloc (.cells #[.int .i64 k, .int .i64 m, .string s, .slice nm.a nm.n nm.cap, .slice a n cap] 26)).alloc (.cells #[.int .i64 0, .int .i64 0, .string ⟨#[]⟩, .slice none 0 0, .slice none 0 0] 26)).alloc (.cells #[.int .i64 k, .int .i64 m, .string s, .slice none 0 0, .slice none 0 0] 26))) (hb3.block g (Nat.lt_of_lt_of_le hR.lt hB))).1
  rw [hk] at g1
  have HB3 := Lib.hid hb3
  have HX0 := Lib.hid hx3
  have HY1 := Lib.hid hy3
  have HZ2 := Lib.hid hz2
  have HZ3 := Lib.hid hz3
  have v0 := hy2.cell 0 (v := .int .i64 k) rfl
  have v1 := hy2.cell 1 (v := .int .i64 m) rfl
  have v2 := hy2.cell 2 (v := .string s) rfl
  have p0 := hx3.cell 0 (v := .pointer (some ⟨g, x, none⟩)) rfl
  have p1 := hx3.cell 1 (v := .slice (some ⟨g, o, none⟩) d.n d.cap) rfl
  have u2 := hy3.cell 2 (v := .string s) rfl
  have u4 := hy3.cell 4 (v := .slice a n cap) rfl
  have HSZ := Lib.hid (show ((((w.alloc (.cells #[.pointer (some ⟨g, x, none⟩), .slice (some ⟨g, o, none⟩) d.n d.cap] 72)).alloc (.cells #[.int .i64 k, .int .i64 m, .string s, .slice nm.a nm.n nm.cap, .slice a n cap] 26)).alloc (.cells #[.int .i64 0, .int .i64 0, .string ⟨#[]⟩, .slice none 0 0, .slice none 0 0] 26)).alloc (.cells #[.int .i64 k, .int .i64 m, .string s, .slice none 0 0, .slice none 0 0] 26)).heap.size = w.heap.size + 1 + 1 + 1 + 1 from by simp only [World.size_alloc])
  simp only [World.size_alloc] at v0 v1 v2 u2 u4 HY1 HZ2 HZ3
  clear hx0 hx1 hx2 hx3 hy1 hy2 hy3 hz2 hz3 hb0 hb1 hb2 hb3 hR hB
  go_enter Tryz.func35, Tryz.ntmps35
  go_wp2_with (first
    | (refine wpList_store_new rfl 26 (.tmp 5) (.tmp 16) rfl 5 _ [.int .i64 k, .int .i64 m, .string s, .slice none 0 0, .slice none 0 0] rfl (by rfl) info_V (by simp [Value.oneCell']) rfl rfl ?_))

  generalize ((((w.alloc (.cells #[.pointer (some ⟨g, x, none⟩), .slice (some ⟨g, o, none⟩) d.n d.cap] 72)).alloc (.cells #[.int .i64 k, .int .i64 m, .string s, .slice nm.a nm.n nm.cap, .slice a n cap] 26)).alloc (.cells #[.int .i64 0, .int .i64 0, .string ⟨#[]⟩, .slice none 0 0, .slice none 0 0] 26)).alloc (.cells #[.int .i64 k, .int .i64 m, .string s, .slice none 0 0, .slice none 0 0] 26)) = W3 at *
  obtain ⟨b, hb⟩ : ∃ b, w.heap.size = b := ⟨_, rfl⟩
  have HBE := Lib.hid hb
  have HSZW := Lib.hid (show w.heap.size ≤ b + 3 by omega)
  rw [hb] at HX0 HY1 HZ2 HZ3 HSZ ⊢
  clear hb p0 p1 u2 u4 v0 v1 v2 g1

  go_loopw [27] (fun iv wr => RelC9 W3 b k m s n FF iv wr) (fun iv _ => n - (Lib.intOf iv).toNat)
  case atStart => exact ⟨0, .slice none 0 0, fun _ => .nil, Nat.zero_le _, rfl, HZ3.out, GotV.nil _ _ _, fun i hi => absurd hi (Nat.not_lt_zero i), Below.refl _ _⟩
  case round =>
    obtain ⟨j, v, f, hj, rfl, hbx, hgot, hff, hb3⟩ := hrel
    have HBX := Lib.hid hbx
    have HGOT := Lib.hid hgot
    have HF := Lib.hid hff
    have HBR := Lib.hid hb3
    clear hbx hgot hff hb3
    have HS4 := Lib.hid (show b + 4 ≤ wr.heap.size from by have := HBX.out.lt; omega)
    have HBWR := Lib.hid (HB3.out.trans (HBR.out.mono HSZW.out))
    by_cases hlt : j < n
    · have q1 : decide ((j : Int) < (n : Int)) = true := decide_eq_true (by omega)
      have q1n : decide (j < n) = true := decide_eq_true hlt
      have q3 : IntKind.i64.wrap ((j : Int) + 1) = ((j + 1 : Nat) : Int) := wrap_succ hlt (by omega)
      obtain ⟨gx, ox, hix, hgx, hrd⟩ := HIX.out j hlt
      have hrx := hrd wr (HBWR.out.block gx (by have := HBB.out; omega))
      obtain ⟨k0, m0, s0, nm0, a0, n0, cap0, c0, hv0⟩ := HVI.out j hlt
      have HR := Lib.hid (fun (W : World) (hW : Below w.heap.size w W) => HREC.out j hlt W hW)
      have HFJ := Lib.hid (fun y => HFF.out j y)
      rw [hv0] at hrx HR HFJ
      rw [list5] at hrx HR
      have HRX := Lib.hid hrx
      clear hrx hrd hv0
      have HPX := Lib.hid ((HX0.out.below HBR.out (by omega)).alloc (.cells #[.int .i64 k0, .int .i64 m0, .string s0, .slice nm0.a nm0.n nm0.cap, .slice a0 n0 cap0] 26))
      have HPC := Lib.hid (HBX.out.alloc (.cells #[.int .i64 k0, .int .i64 m0, .string s0, .slice nm0.a nm0.n nm0.cap, .slice a0 n0 cap0] 26))
      have HPE := Lib.hid (Bx.new wr #[.int .i64 k0, .int .i64 m0, .string s0, .slice nm0.a nm0.n nm0.cap, .slice a0 n0 cap0] 26)
      have HS7 := Lib.hid (show (wr.alloc (.cells #[.int .i64 k0, .int .i64 m0, .string s0, .slice nm0.a nm0.n nm0.cap, .slice a0 n0 cap0] 26)).heap.size = wr.heap.size + 1 from World.size_alloc ..)
      have HB7 := Lib.hid ((Below.refl wr.heap.size wr).alloc (Nat.le_refl _) (.cells #[.int .i64 k0, .int .i64 m0, .string s0, .slice nm0.a nm0.n nm0.cap, .slice a0 n0 cap0] 26))
      go_upto_region 7 with (first
        | (refine wpList_load_mid rfl 26 (.tmp 29) rfl gx ox rfl [.int .i64 k0, .int .i64 m0, .string s0, .slice nm0.a nm0.n nm0.cap, .slice a0 n0 cap0] _ HRX.out Tryz.underlying26 rfl (by rw [info_V]; rfl) ?_)
        | (refine wpList_store_new rfl 26 (.tmp 7) (.tmp 30) rfl 5 _ [.int .i64 k0, .int .i64 m0, .string s0, .slice nm0.a nm0.n nm0.cap, .slice a0 n0 cap0] rfl (by rfl) info_V (by simp [Value.oneCell']) rfl rfl ?_))
      generalize wr.alloc (.cells #[.int .i64 k0, .int .i64 m0, .string s0, .slice nm0.a nm0.n nm0.cap, .slice a0 n0 cap0] 26) = W7 at *
      obtain ⟨b7, hb7⟩ : ∃ b7, wr.heap.size = b7 := ⟨_, rfl⟩
      have HB7E := Lib.hid hb7
      rw [hb7] at HPE HS7 ⊢
      clear hb7
      dsimp only [Act.put]
      have HBY := Lib.hid (show ∀ W, Below (b7 + 1) W7 W → Below wr.heap.size wr W from fun W hW => HB7.out.trans (hW.mono (by have := HB7E.out; omega)))
      have HBZ := Lib.hid (show ∀ W, Below (b7 + 1) W7 W → Below w.heap.size w W from fun W hW => HBWR.out.trans ((HBY.out W hW).mono HBWR.out.size))
      have HCL := Lib.hid (show ∀ W, Below (b7 + 1) W7 W → W.cell? ⟨b + 1 + 1 + 1, 4, none⟩ = some v from fun W hW => (HPC.out.below hW (by have := HS4.out; have := HB7E.out; omega)).cell 4 rfl)
      have HCX := Lib.hid (show ∀ W, Below (b7 + 1) W7 W → (W.cell? ⟨b7, 0, none⟩ = some (.int .i64 k0) ∧ W.cell? ⟨b7, 1, none⟩ = some (.int .i64 m0) ∧ W.cell? ⟨b7, 2, none⟩ = some (.string s0) ∧ W.cell? ⟨b7, 3, none⟩ = some (.slice nm0.a nm0.n nm0.cap) ∧ W.cell? ⟨b7, 4, none⟩ = some (.slice a0 n0 cap0)) from fun W hW => by
        have h := HPE.out.below hW (by omega)
        exact ⟨h.cell 0 rfl, h.cell 1 rfl, h.cell 2 rfl, h.cell 3 rfl, h.cell 4 rfl⟩)
      have p0 := HPX.out.cell 0 (v := .pointer (some ⟨g, x, none⟩)) rfl
      have p1 := HPX.out.cell 1 (v := .slice (some ⟨g, o, none⟩) d.n d.cap) rfl
      have l0 := HCL.out _ (Below.refl _ _)
      obtain ⟨e1, e2, e3, e4, e5⟩ := HCX.out _ (Below.refl _ _)
      have HBX0 := Lib.hid (Below.drew (Below.refl (b7 + 1) W7))
      go_region_law (first
        | (go_simp; go_at_call 52; (refine (HELM.out _ (HBZ.out _ HBX0.out)).mono ?_); rintro e w5 ⟨rfl, h5⟩; have HBX1 := Lib.hid (HBX0.out.trans (h5.mono (by have h := HBX0.out.size; rw [HS7.out] at h; exact h))); clear h5; have l1 := HCL.out _ HBX1.out; obtain ⟨e21, e22, e23, e24, e25⟩ := HCX.out _ HBX1.out)
        | (go_simp; go_at_call 35; (refine (HR.out _ (HBZ.out _ HBX1.out)).mono ?_); rintro e w6 ⟨v1, rfl, hvi, hvb, hfu, h6⟩; obtain ⟨k1, m1, s1, nm1, a1, n1, cap1, ch1, rfl⟩ := vin_mk hvi; rw [list5]; have HBX2 := Lib.hid (HBX1.out.trans (h6.mono (by have h := HBX1.out.size; rw [HS7.out] at h; exact h))); have HV1 := Lib.hid hvi; have HVB := Lib.hid hvb; have HFU := Lib.hid (show FF j _ from by rw [← HFJ.out]; exact hfu); clear h6 hvi hvb hfu; have l2 := HCL.out _ HBX2.out; have HBX3 := Lib.hid (HBX2.out.alloc (by have h := HBX2.out.size; rw [HS7.out] at h; exact h) (.cells #[.int .i64 k1, .int .i64 m1, .string s1, .slice nm1.a nm1.n nm1.cap, .slice a1 n1 cap1] 26)); have l3 := HCL.out _ HBX3.out)
        | (refine step_append_lies _ (by rfl) (.tmp 32) (.tmp 37) 24 (by rfl) (b + 4) 26 i0 zeroV 5 80 Tryz.underlying24 hi0 hz0 hz1 hz2 rfl (by decide) v j (flatV f j) (by rfl) (HGOT.out.below (HBY.out _ HBX3.out)).1 ⟨w6.heap.size, 0, none⟩ 1 1 [.int .i64 k1, .int .i64 m1, .string s1, .slice nm1.a nm1.n nm1.cap, .slice a1 n1 cap1] (by rfl) (by rfl) (World.news_of_block (Bx.new w6 #[.int .i64 k1, .int .i64 m1, .string s1, .slice nm1.a nm1.n nm1.cap, .slice a1 n1 cap1] 26)) (by simp [Value.oneCell']) (by decide) (by unfold maxLen; omega) (by omega) (by have h := (HBY.out _ HBX3.out).size; have := HS4.out; omega) (w6.heap.size + 1) (World.size_alloc ..) ?_; intro gn capn w8 ho hg hat hlt8; have HST := Lib.hid (got_step HBX.out HGOT.out HBR.out HS4.out (HBY.out _ HBX1.out).size (HBY.out _ HBX2.out) HV1.out HVB.out ho hg hat); have o4 := HST.out.1.cell 4 (v := v) rfl; have o5 := frozenM HST.out.1 4; clear ho hg hat hlt8))
      all_goals (
        have HF2 := Lib.hid (show ∀ i, i < j + 1 → FF i (if i < j then f i else .mk k1 m1 s1 nm1 a1 n1 cap1 ch1) from fun i hi => by
          by_cases h1 : i < j
          · rw [if_pos h1]; exact HF.out i h1
          · rw [if_neg h1, show i = j by omega]; exact HFU.out)
        clear o4 o5 p0 p1 l0 l1 l2 l3 e1 e2 e3 e4 e5 e21 e22 e23 e24 e25
        go_wp2_with fail
        go_roundw
        case rel => exact ⟨j + 1, _, _, hlt, rfl, HST.out.2.1, HST.out.2.2.1, HF2.out, HST.out.2.2.2⟩
        case measure => simp only [Lib.intOf]; omega)
    · have q1 : decide ((j : Int) < (n : Int)) = false := decide_eq_false (by omega)
      have q1n : decide (j < n) = false := decide_eq_false hlt
      obtain rfl : j = n := by omega
      obtain ⟨av, capv, rfl, _, _, _⟩ := HGOT.out.row (by omega)
      have HZR := Lib.hid (HZ2.out.below HBR.out (by omega))
      go_wp2_with (first
        | (refine wpList_load_mid rfl 26 (.tmp 5) rfl (b + 1 + 1 + 1) 0 rfl [.int .i64 k, .int .i64 m, .string s, .slice none 0 0, .slice av j capv] _ HBX.out.range Tryz.underlying26 rfl (by rw [info_V]; rfl) ?_)
        | (refine wpList_store_bx rfl 26 (.tmp 4) (.tmp 70) rfl 5 (b + 1 + 1) _ [.int .i64 k, .int .i64 m, .string s, .slice none 0 0, .slice av j capv] HZR.out (by rfl) (by rfl) info_V (by simp [Value.oneCell']) rfl rfl ?_; intro w10 hz10 hx10 hb10 ho10; have HX10 := Lib.hid hx10; have HG10 := Lib.hid (HGOT.out.keep (W' := w10) (fun q hq => ho10 q (by omega)) (by rw [hz10]; exact Nat.le_refl _)); have HB10 := Lib.hid (HBWR.out.trans (hb10.mono (by rw [HBE.out]; omega))); clear hz10 hx10 hb10 ho10))
      obtain ⟨av2, capv2, e1, hrow, hrp, hvs⟩ := HG10.out.row (by omega)
      cases e1
      refine bodyPost_ret (v := .agg #[.int .i64 k, .int .i64 m, .string s, .slice none 0 0, .slice av j capv]) ?_ rfl ⟨.mk k m s noSL av j capv f, rfl, ⟨⟨HVX.out.1, HVX.out.2.1, HVX.out.2.2.1, noSL_in _ _⟩, hrow, fun i hi => (hvs i hi).1⟩, ⟨fun h => absurd h (Nat.lt_irrefl _), hrp.mono fun q hq => by show w.heap.size ≤ q; have : b + 4 ≤ q := hq; rw [HBE.out]; omega, fun i hi => (hvs i hi).2.mono fun q hq => by show w.heap.size ≤ q; have : b + 4 ≤ q := hq; rw [HBE.out]; omega⟩, HFULL.out _ _ _ (fun i hi => by rw [HFF.out]; exact HF.out i hi), HB10.out⟩
      exact results_cell_row (p := 4) rfl _ _ (b + 1 + 1) 26 _ (0, 0) _ rfl HX10.out Tryz.underlying26 rfl (by rw [info_V]; rfl)
end Go.Proofs.YtjhecpkdpomkmaaGreat

namespace Go.Proofs.YtjhecpkdpomkmaaGreat
open Go.RowKit
set_option linter.unusedVariables false
set_option linter.unusedSimpArgs false
set_option maxRecDepth 100000

theorem seqR_congr {r : DT} {nm nm' nm2 : SL} {C C2 D D2 : Nat → Nat → Nat → Prop} : ∀ {k x y : Nat}, SeqR r nm nm' C D k x y → (∀ i, i < y → nm'.f i = nm2.f i) → (∀ x i t, i < y → C x i t → C2 x i t) → (∀ k j i, i < y → D k j i → D2 k j i) → SeqR r nm nm2 C2 D2 k x y
  | 0, x, y, h, _, _, _ => h
  | k + 1, x, y, h, h1, h2, h3 => by
    rcases h with ⟨x0, y0, h4, rfl, rfl, c, e, c2⟩ | ⟨y0, h4, rfl, c, e⟩
    · exact .inl ⟨x0, y0, seqR_congr h4 (fun i hi => h1 i (by omega)) (fun x i t hi => h2 x i t (by omega)) (fun k j i hi => h3 k j i (by omega)), rfl, rfl, c, by rw [← h1 y0 (by omega)]; exact e, h2 _ _ _ (by omega) c2⟩
    · exact .inr ⟨y0, seqR_congr h4 (fun i hi => h1 i (by omega)) (fun x i t hi => h2 x i t (by omega)) (fun k j i hi => h3 k j i (by omega)), rfl, c, fun j hj => ⟨by rw [← h1 (y0 + j) (by omega)]; exact (e j hj).1, h3 _ _ _ (by omega) (e j hj).2⟩⟩
def strsV (N : Nat → ByteArray) (k : Nat) : List Value := (List.range k).map fun i => .string (N i)
theorem strsV_get {N : Nat → ByteArray} {k i : Nat} (hi : i < k) : (strsV N k)[i]? = some (.string (N i)) := by
  unfold strsV
  rw [List.getElem?_map, List.getElem?_range hi]
  rfl
theorem strsV_succ {N : Nat → ByteArray} {k : Nat} (s : ByteArray) : strsV (fun i => if i < k then N i else s) (k + 1) = strsV N k ++ [.string s] := by
  unfold strsV
  rw [List.range_succ, List.map_append]
  congr 1
  · refine List.map_congr_left fun i hi => ?_
    show Value.string (if i < k then N i else s) = _
    rw [if_pos (List.mem_range.1 hi)]
  · simp
/-- names and values that are gathered, each a row of one's own, apart -/
structure CpS (A : Nat) (W : World) (nv : Value) (p : Nat) (N : Nat → ByteArray) (lv : Value) (q : Nat) (f : Nat → VT) : Prop where
  nm : W.ownsRow A 9 1 nv p (strsV N p)
  got : GotV A W lv q f
  apart : ∀ i, i < q → VBlk (fun g => some g ≠ nv.ownBlock) (f i)
  rows : ∀ j, nv.ownBlock = some j → lv.ownBlock ≠ some j
  sz : ∀ i, i < p → (N i).size ≤ 140737488355328
theorem CpS.nil (A : Nat) (W : World) (N : Nat → ByteArray) (f : Nat → VT) : CpS A W (.slice none 0 0) 0 N (.slice none 0 0) 0 f :=
  ⟨World.ownsRow_nil _ _ _ _, GotV.nil _ _ _, fun i h => absurd h (Nat.not_lt_zero i), fun j h => (by cases h), fun i h => absurd h (Nat.not_lt_zero i)⟩
theorem CpS.below {A p q : Nat} {W W' : World} {nv lv : Value} {N : Nat → ByteArray} {f : Nat → VT} (h : CpS A W nv p N lv q f) (hb : Below W.heap.size W W') : CpS A W' nv p N lv q f :=
  ⟨own_under h.nm hb, h.got.below hb, h.apart, h.rows, h.sz⟩
theorem own_keepM {W W' : World} {A s n : Nat} {v : Value} {e : TypeId} {xs : List Value} (h : W.ownsRow A e s v n xs) (hf : ∀ g, g < W.heap.size → v.ownBlock = some g → W'.heap[g]? = W.heap[g]?) : W'.ownsRow A e s v n xs := by
  have hlt := h.lt
  rcases h with ⟨h1, h2⟩
  refine ⟨h1, ?_⟩
  rcases h2 with h2 | ⟨g, cap, cur, rfl, e2, e3, e4⟩
  · exact .inl h2
  · exact .inr ⟨g, cap, cur, rfl, e2, (hf g (hlt g rfl).2 rfl).trans e3, e4⟩
theorem CpS.addName {A p q g cap : Nat} {W W' : World} {nv lv : Value} {N : Nat → ByteArray} {f : Nat → VT} {s : ByteArray} (h : CpS A W nv p N lv q f) (hs : s.size ≤ 140737488355328)
    (ho : W'.ownsRow A 9 1 (.slice (some ⟨g, 0, none⟩) (p + 1) cap) (p + 1) (strsV N p ++ [.string s])) (hg : W.grownBy W' nv.ownBlock) (hat : nv.ownBlock = some g ∨ g = W.heap.size) :
    CpS A W' (.slice (some ⟨g, 0, none⟩) (p + 1) cap) (p + 1) (fun i => if i < p then N i else s) lv q f := by
  refine ⟨by rw [strsV_succ]; exact ho, ⟨own_keepM h.got.1 fun b hb e => hg.block b hb fun e2 => h.rows b e2.symm e, fun i hi => ⟨VIn.frame (P := fun b => (A ≤ b ∧ some b ≠ lv.ownBlock) ∧ some b ≠ nv.ownBlock) (fun b hb hp => hg.block b hb hp.2) hg.size (h.got.2 i hi).1 (VBlk.and (h.got.2 i hi).2 (h.apart i hi)), (h.got.2 i hi).2⟩⟩, fun i hi => (VBlk.and (h.apart i hi) (h.got.2 i hi).1.blk).mono fun b hb e => ?_, fun j hj => ?_, fun i hi => ?_⟩
  · have e2 : b = g := by simpa [Value.ownBlock] using e
    rcases hat with h1 | h1
    · exact hb.1 (by rw [e2, h1])
    · have := hb.2
      omega
  · have e2 : g = j := by simpa [Value.ownBlock] using hj
    subst e2
    rcases hat with h1 | h1
    · exact h.rows g h1
    · intro e
      have := (h.got.1.lt g e).2
      omega
  · by_cases h1 : i < p
    · rw [if_pos h1]; exact h.sz i h1
    · rw [if_neg h1]; exact hs
theorem CpS.addVal {A p q g cap : Nat} {W W' : World} {nv lv : Value} {N : Nat → ByteArray} {f : Nat → VT} {x : VT} (h : CpS A W nv p N lv q f) (hx : VIn W.heap.size W x) (hxb : VBlk (fun g => A ≤ g ∧ some g ≠ lv.ownBlock) x) (hxn : VBlk (fun g => some g ≠ nv.ownBlock) x)
    (ho : W'.ownsRow A 26 5 (.slice (some ⟨g, 0, none⟩) (q + 1) cap) (q + 1) (flatV f q ++ x.cells)) (hg : W.grownBy W' lv.ownBlock) (hat : lv.ownBlock = some g ∨ g = W.heap.size) :
    CpS A W' nv p N (.slice (some ⟨g, 0, none⟩) (q + 1) cap) (q + 1) (fun i => if i < q then f i else x) := by
  refine ⟨own_keepM h.nm fun b hb e => hg.block b hb fun e2 => h.rows b e e2.symm, h.got.grow hx hxb ho hg hat, fun i hi => ?_, fun j hj e => ?_, h.sz⟩
  · by_cases h1 : i < q
    · rw [if_pos h1]; exact h.apart i h1
    · rw [if_neg h1]; exact hxn
  · have e2 : g = j := by simpa [Value.ownBlock] using e
    subst e2
    rcases hat with h1 | h1
    · exact h.rows g hj h1
    · have := (h.nm.lt g hj).2
      omega
/-- the names, read as a list -/
theorem CpS.names {A p q : Nat} {W : World} {nv lv : Value} {N : Nat → ByteArray} {f : Nat → VT} (h : CpS A W nv p N lv q f) (hp : p ≤ 140737488355328) :
    ∃ a cap, nv = .slice a p cap ∧ SLIn W.heap.size W ⟨a, p, cap, N⟩ ∧ rowP (A ≤ ·) a p := by
  rcases h.nm.2 with ⟨rfl, rfl⟩ | ⟨g, cap, cur, rfl, hbg, hg, hnc, hcm, hsz, htk⟩
  · exact ⟨none, 0, rfl, ⟨(row_none W 1 _).mono (Nat.zero_le _), fun i h => absurd h (Nat.not_lt_zero i)⟩, fun h => absurd h (Nat.lt_irrefl _)⟩
  · have hl := (h.nm.lt g rfl).2
    refine ⟨some ⟨g, 0, none⟩, cap, rfl, ⟨⟨hnc, hp, fun h => (by cases h), fun h0 => ⟨g, 0, rfl, hl, fun i hi j u hj => ?_⟩⟩, h.sz⟩, fun _ q o ha => (by cases ha; exact hbg)⟩
    have hj0 : j = 0 := by
      obtain ⟨h1, _⟩ := List.getElem?_eq_some_iff.1 hj
      simpa using h1
    subst hj0
    have hu : u = .string (N i) := by simpa using hj.symm
    subst hu
    have := h.nm.cells rfl i _ (strsV_get hi)
    rw [Addr.add_mid] at this
    rwa [show 0 + i * 1 + 0 = 0 + i by omega]
theorem isDfl_cases {k : Int} (h : isDfl k = true) : k ≠ 8 ∧ k ≠ 9 ∧ k ≠ 10 := by
  refine ⟨?_, ?_, ?_⟩ <;> (rintro rfl; revert h; decide)
/-- a default, with all defaults, is a leaf -/
theorem comp_def (B : Nat) (w : World) (g o : Nat) (d : TB) (i k j t : Nat) (hT : TAt B w g o d) (hB : B ≤ w.heap.size) (hd : d.good = true) (hi : i < d.n) (hk : k < (d.f i).count) (hj : j < ((d.f i).part k).d.n) (ht : ((d.f i).part k).t.toNat = t) (htn : t < d.n)
    (hv : VIn B w (((d.f i).part k).d.f j)) :
    Calls Tryz.prog 35 #[rV g (o + t * 12) o d.n d.cap, .agg (((d.f i).part k).d.f j).cells.toArray] w (CompOut w (leafOf (((d.f i).part k).d.f j))) := by
  obtain ⟨h1, h2⟩ := TB.good_def hd hi hk hj
  rw [ht] at h2
  have hkk := VT.has_kind h2
  have hne := isDfl_cases h1
  obtain ⟨k0, m0, s0, nm0, a0, n0, cap0, ch0, hv0⟩ := vin_mk hv
  rw [hv0] at hv hkk hne ⊢
  have hkd : (d.f t).kind = k0 := hkk.symm
  refine (comp_leaf B w g (o + t * 12) o d t k0 m0 s0 nm0 a0 n0 cap0 ch0 (hT.at htn) hB (by rw [hkd]; exact hne.1) (by rw [hkd]; exact hne.2.1) (by rw [hkd]; exact hne.2.2)).mono fun e w' h => ?_
  exact ⟨leafV k0 m0 s0, h.1, leafV_in _ _ hv.1.1 hv.1.2.1 hv.1.2.2.1, leafV_blk _ _ _ _, ⟨noSL, none, 0, _, rfl, rfl⟩, h.2⟩
end Go.Proofs.YtjhecpkdpomkmaaGreat
