/-
  A bundle of texts, one behind the other: MbD6.
-/
import Derived.Test.YtjhecpkdpomkmaaGreatQTA
namespace Go.Proofs.YtjhecpkdpomkmaaGreat
open Go.RowKit
set_option linter.unusedVariables false
set_option linter.unusedSimpArgs false
set_option maxRecDepth 100000

theorem info_Sz : (Tryz.prog.info? 9).map (fun i => (i.zero, i.size, i.bytes)) = some (some (.string ⟨#[]⟩), 1, 16) := by kernel_rfl
theorem info_Sz' : ∃ i0, Tryz.prog.info? 9 = some i0 ∧ i0.zero = some (.string ⟨#[]⟩) ∧ i0.size = 1 ∧ i0.bytes = 16 := by
  have h := info_Sz
  cases hi : Tryz.prog.info? 9 with
  | none => rw [hi] at h; cases h
  | some i0 =>
    rw [hi] at h
    simp only [Option.map_some, Option.some.injEq, Prod.mk.injEq] at h
    exact ⟨i0, rfl, h.1, h.2.1, h.2.2⟩
theorem vSlice (g o n cap k : Nat) (hk : k < n) (hc : n ≤ cap) (w : World) : (Instr.slice 24 (.slice (some ⟨g, o, none⟩) n cap) (some (.int .i64 (k : Nat))) (some (.int .i64 ((k : Int) + 1))) none).run Tryz.prog w = .ok (.slice (some ⟨g, o + k * 5, none⟩) 1 (cap - k)) w := by
  have he : Tryz.prog.elem 24 = 26 := by kernel_rfl
  rw [run_slice_lh (ht := by rw [he]; exact Tryz.underlying24) (h0 := by omega) (h1 := by omega) (h2 := by omega), he, Tryz.sizeOf26]
  simp [Result.andThen, sliced, Addr.add_mid, show ¬ cap = k by omega]
/-- three blocks stay -/
def K3 (W0 : World) (b c d : Nat) (W : World) : Prop := (b < W.heap.size ∧ W.heap[b]? = W0.heap[b]?) ∧ (c < W.heap.size ∧ W.heap[c]? = W0.heap[c]?) ∧ (d < W.heap.size ∧ W.heap[d]? = W0.heap[d]?)
theorem K3.below {W0 W W' : World} {b c d : Nat} (h : K3 W0 b c d W) (hb : Below W.heap.size W W') : K3 W0 b c d W' :=
  ⟨⟨Nat.lt_of_lt_of_le h.1.1 hb.size, (hb.block b h.1.1).trans h.1.2⟩, ⟨Nat.lt_of_lt_of_le h.2.1.1 hb.size, (hb.block c h.2.1.1).trans h.2.1.2⟩, ⟨Nat.lt_of_lt_of_le h.2.2.1 hb.size, (hb.block d h.2.2.1).trans h.2.2.2⟩⟩
theorem K3.grown {W0 W W' : World} {b c d : Nat} {row : Option Nat} (h : K3 W0 b c d W) (hg : W.grownBy W' row) (hr : row ≠ some b ∧ row ≠ some c ∧ row ≠ some d) : K3 W0 b c d W' :=
  ⟨⟨Nat.lt_of_lt_of_le h.1.1 hg.size, (hg.block b h.1.1 (fun e => hr.1 e.symm)).trans h.1.2⟩, ⟨Nat.lt_of_lt_of_le h.2.1.1 hg.size, (hg.block c h.2.1.1 (fun e => hr.2.1 e.symm)).trans h.2.1.2⟩, ⟨Nat.lt_of_lt_of_le h.2.2.1 hg.size, (hg.block d h.2.2.1 (fun e => hr.2.2 e.symm)).trans h.2.2.2⟩⟩
/-- the outer loop: c parts are done -/
def RelCp (W1 : World) (A CN : Nat) (r : DT) (nm : SL) (h : Nat → Nat → Bool) (F : Nat → Nat → VT → Prop) (G : Nat → Nat → VT → Prop) (nv lv xv iv : Value) (wr : World) : Prop :=
  ∃ (c x y : Nat) (N : Nat → ByteArray) (f : Nat → VT), iv = .int .i64 (c : Nat) ∧ xv = .int .i64 (x : Nat) ∧ c ≤ CN ∧ x ≤ nm.n ∧ y ≤ c ∧ CpS A wr nv y N lv y f ∧ SeqR r nm ⟨none, y, 0, N⟩ (fun x y t => F x t (f y)) (fun k j y => G k j (f y)) c x y ∧ seqGo r nm h c = some x ∧ Below A W1 wr
/-- the inner loop: u elements are done -/
def RelCi (W1 W4 : World) (A b4 y on : Nat) (pn : ByteArray) (N : Nat → ByteArray) (f : Nat → VT) (E : Nat → VT → Prop) (nv lv iv : Value) (wr : World) : Prop :=
  ∃ (u : Nat) (N' : Nat → ByteArray) (f' : Nat → VT), iv = .int .i64 (u : Nat) ∧ u ≤ on ∧ CpS A wr nv (y + u) N' lv (y + u) f' ∧ (∀ i, i < y → N' i = N i ∧ f' i = f i) ∧ (∀ i, i < u → N' (y + i) = pn ∧ E i (f' (y + i))) ∧ Below A W1 wr ∧ (b4 < wr.heap.size ∧ wr.heap[b4]? = W4.heap[b4]?) ∧ nv.ownBlock ≠ some b4 ∧ lv.ownBlock ≠ some b4
theorem seqR_one {r : DT} {nm : SL} {N N' : Nat → ByteArray} {f f' : Nat → VT} {F G : Nat → Nat → VT → Prop} {c x y : Nat} (h : SeqR r nm ⟨none, y, 0, N⟩ (fun x y t => F x t (f y)) (fun k j y => G k j (f y)) c x y) (he : ∀ i, i < y → N' i = N i ∧ f' i = f i)
    (ht : x < nm.n ∧ sEq (nm.f x) (r.part c).name = true) (h1 : N' y = (r.part c).name) (h2 : F x (r.part c).t.toNat (f' y)) : SeqR r nm ⟨none, y + 1, 0, N'⟩ (fun x y t => F x t (f' y)) (fun k j y => G k j (f' y)) (c + 1) (x + 1) (y + 1) :=
  .inl ⟨x, y, seqR_congr h (fun i hi => (he i hi).1.symm) (fun x i t hi hf => by rw [(he i hi).2]; exact hf) (fun k j i hi hf => by rw [(he i hi).2]; exact hf), rfl, rfl, ht, h1, h2⟩
theorem seqR_defs {r : DT} {nm : SL} {N N' : Nat → ByteArray} {f f' : Nat → VT} {F G : Nat → Nat → VT → Prop} {c x y : Nat} (h : SeqR r nm ⟨none, y, 0, N⟩ (fun x y t => F x t (f y)) (fun k j y => G k j (f y)) c x y) (he : ∀ i, i < y → N' i = N i ∧ f' i = f i)
    (ht : ¬ (x < nm.n ∧ sEq (nm.f x) (r.part c).name = true)) (h1 : ∀ i, i < (r.part c).d.n → N' (y + i) = (r.part c).name ∧ G c i (f' (y + i))) : SeqR r nm ⟨none, y + (r.part c).d.n, 0, N'⟩ (fun x y t => F x t (f' y)) (fun k j y => G k j (f' y)) (c + 1) x (y + (r.part c).d.n) :=
  .inr ⟨y, seqR_congr h (fun i hi => (he i hi).1.symm) (fun x i t hi hf => by rw [(he i hi).2]; exact hf) (fun k j i hi hf => by rw [(he i hi).2]; exact hf), rfl, ht, h1⟩
/-- what 'completedParts' answers -/
def PartsOut (d : TB) (i : Nat) (nm : SL) (ch : Nat → VT) (w : World) (e : Ending) (w' : World) : Prop :=
  ∃ nv lv y N f, e = .returned (.tuple #[nv, lv]) ∧ y ≤ 1000000 ∧ CpS (w.heap.size + 2) w' nv y N lv y f ∧
      SeqR (d.f i) nm ⟨none, y, 0, N⟩ (fun x y t => (ch x).full d t (f y)) (fun k j y => leafOf (((d.f i).part k).d.f j) (f y)) (d.f i).count nm.n y ∧ Below w.heap.size w w'
set_option maxHeartbeats 64000000 in
theorem compParts_ok (B : Nat) (w : World) (g x o : Nat) (d : TB) (i : Nat) (k m : Int) (s : ByteArray) (nm : SL) (a : Option Addr) (n cap : Nat) (ch : Nat → VT) (hR : RAt B w g x o d i) (hB : B ≤ w.heap.size) (hd : d.good = true)
    (hx : VIn B w (.mk k m s nm a n cap ch)) (hn : n = nm.n) (hseq : seqGo (d.f i) nm (fun j t => (ch j).has d t) (d.f i).count = some nm.n)
    (hrec : ∀ j, j < n → ∀ t, t < d.n → (ch j).has d t = true → ∀ W, Below w.heap.size w W → Calls Tryz.prog 35 #[rV g (o + t * 12) o d.n d.cap, .agg (ch j).cells.toArray] W (CompOut W ((ch j).full d t))) :
    Calls Tryz.prog 55 #[rV g x o d.n d.cap, .agg (VT.mk k m s nm a n cap ch).cells.toArray] w (PartsOut d i nm ch w) := by
  obtain ⟨i0, hi0, hz0, hz1, hz2⟩ := info_Vz'
  obtain ⟨j0, hj0, hy0, hy1, hy2⟩ := info_Sz'
  have hgood := TB.good_right hd
  have hrow := TB.right_row hgood hR.2.1
  have hcnt : (d.f i).count ≤ 512 := by have := hrow.few; unfold DT.count; omega
  have hb0 := (Below.refl w.heap.size w).alloc (Nat.le_refl _) (.cells #[.pointer (some ⟨g, x, none⟩), .slice (some ⟨g, o, none⟩) d.n d.cap] 72)
  have hb1 := hb0.alloc hb0.size (.cells #[.int .i64 k, .int .i64 m, .string s, .slice nm.a nm.n nm.cap, .slice a n cap] 26)
  have hxa := (Bx.new w #[.pointer (some ⟨g, x, none⟩), .slice (some ⟨g, o, none⟩) d.n d.cap] 72).alloc (.cells #[.int .i64 k, .int .i64 m, .string s, .slice nm.a nm.n nm.cap, .slice a n cap] 26)
  have hxb := Bx.new (w.alloc (.cells #[.pointer (some ⟨g, x, none⟩), .slice (some ⟨g, o, none⟩) d.n d.cap] 72)) #[.int .i64 k, .int .i64 m, .string s, .slice nm.a nm.n nm.cap, .slice a n cap] 26
  rw [World.size_alloc] at hxb
  have HRB := Lib.hid (fun (W : World) (hW : Below w.heap.size w W) => (hR.below (Below.refl _ _) hB).below hW (Nat.le_refl _))
  have HCT := Lib.hid (fun (W : World) (hb : Below w.heap.size w W) => countM_ok w.heap.size W g x o d i (HRB.out W hb) hb.size)
  have HPT := Lib.hid (fun (W : World) (k : Nat) (hk : k < (d.f i).count) (hb : Below w.heap.size w W) => part_ok w.heap.size W g x o d i k (HRB.out W hb) hb.size hk)
  have HOF := Lib.hid (fun (W : World) (p : FT) (j : Nat) (hj : p.t = (j : Int)) (hjn : j < d.n) => of_ok W g x o d.n d.cap j p hj hjn)
  have HTN := Lib.hid (show ∀ k, k < (d.f i).count → ∃ j : Nat, ((d.f i).part k).t = (j : Int) ∧ j < d.n ∧ ((d.f i).part k).d.n ≤ 1 from fun k hk => by
    have := FT.ok_t (hrow.part hk).2
    exact ⟨((d.f i).part k).t.toNat, by omega, this.2, FT.ok_d (hrow.part hk).2⟩)
  have HPI := Lib.hid (fun (k : Nat) (hk : k < (d.f i).count) => (((hR.below (Below.refl _ _) hB).row).part hk : FTIn w.heap.size w ((d.f i).part k)))
  have HDEF := Lib.hid (fun (W : World) (hb : Below w.heap.size w W) (k : Nat) (hk : k < (d.f i).count) (j : Nat) (hj : j < ((d.f i).part k).d.n) (t : Nat) (ht : ((d.f i).part k).t.toNat = t) (htn : t < d.n) => comp_def w.heap.size W g o d i k j t (HRB.out W hb).2.2 hb.size hd (HRB.out W hb).2.1 hk hj ht htn (((HPI.out k hk).2.2.2 j hj).below hb (Nat.le_refl _)))
  have HREC := Lib.hid hrec
  have HVV := Lib.hid (hx.below (Below.refl w.heap.size w) hB)
  have HNM := Lib.hid (show ∀ j, j < nm.n → ∃ gx ox : Nat, (∀ w, (Instr.indexAt 23 (.slice nm.a nm.n nm.cap) (.int .i64 (j : Nat))).run Tryz.prog w = .ok (.pointer (some ⟨gx, ox, none⟩)) w) ∧ ∀ W, Below w.heap.size w W → W.cell? ⟨gx, ox, none⟩ = some (.string (nm.f j)) from fun j h0 => by
    obtain ⟨gx, ox, h1, h2, h3⟩ := sRow_read hx.1.2.2.2 h0
    exact ⟨gx, ox, h1, fun W hW => h3 W (hW.block gx (Nat.lt_of_lt_of_le h2 hB))⟩)
  have hnm : nm.n ≤ 140737488355328 := hx.1.2.2.2.1.2.1
  rw [list5]
  unfold rV at HREC HOF HCT HPT HDEF ⊢
  have HXA := Lib.hid hxa
  have HXB := Lib.hid hxb
  have HB1 := Lib.hid hb1
  have p0 := hxa.cell 0 (v := .pointer (some ⟨g, x, none⟩)) rfl
  have p1 := hxa.cell 1 (v := .slice (some ⟨g, o, none⟩) d.n d.cap) rfl
  have HSZ := Lib.hid (show ((w.alloc (.cells #[.pointer (some ⟨g, x, none⟩), .slice (some ⟨g, o, none⟩) d.n d.cap] 72)).alloc (.cells #[.int .i64 k, .int .i64 m, .string s, .slice nm.a nm.n nm.cap, .slice a n cap] 26)).heap.size = w.heap.size + 1 + 1 from by simp only [World.size_alloc])
  obtain ⟨h, hh⟩ : ∃ h, (fun j x => (ch j).has d x) = h := ⟨_, rfl⟩
  have HH := Lib.hid (show ∀ j x, (ch j).has d x = h j x from fun j x => by rw [← hh])
  rw [hh] at hseq
  have HSEQ := Lib.hid hseq
  subst hn
  clear hb0 hb1 hxa hxb hrec hR hB hx hrow hh hseq hd hgood
  generalize hCN : (d.f i).count = CN at *
  go_enter Tryz.func55, Tryz.ntmps55
  go_wp2_with fail
  refine (HCT.out _ HB1.out).mono ?_
  generalize ((w.alloc (.cells #[.pointer (some ⟨g, x, none⟩), .slice (some ⟨g, o, none⟩) d.n d.cap] 72)).alloc (.cells #[.int .i64 k, .int .i64 m, .string s, .slice nm.a nm.n nm.cap, .slice a nm.n cap] 26)) = W1 at *
  rintro e w2 ⟨rfl, h2⟩
  obtain ⟨b, hb⟩ : ∃ b, w.heap.size = b := ⟨_, rfl⟩
  have HBE := Lib.hid hb
  have HW2 := Lib.hid (show Below (b + 2) W1 w2 from h2.mono (by rw [HSZ.out]; omega))
  have HSZW := Lib.hid (show w.heap.size ≤ b + 2 by omega)
  clear h2 p0 p1
  rw [hb] at HXA HXB HSZ ⊢
  clear hb
  go_wp2_with fail
  go_loopw [6, 7, 8, 16] (fun nv lv xv iv wr => RelCp W1 (b + 2) CN (d.f i) nm h (fun x t v => (ch x).full d t v) (fun k j v => leafOf (((d.f i).part k).d.f j) v) nv lv xv iv wr) (fun _ _ _ iv _ => CN - (Lib.intOf iv).toNat)
  case atStart => exact ⟨0, 0, 0, fun _ => ⟨#[]⟩, fun _ => .nil, rfl, rfl, Nat.zero_le _, Nat.zero_le _, Nat.le_refl _, CpS.nil _ _ _ _, ⟨rfl, rfl⟩, rfl, HW2.out⟩
  case round =>
    obtain ⟨c, z, y, N, f, rfl, rfl, hc, hz, hy, hcp, hsq, hgo, hbel⟩ := hrel
    have HCPO := Lib.hid hcp
    have HSQ := Lib.hid hsq
    have HGO := Lib.hid hgo
    have HBL := Lib.hid hbel
    clear hcp hsq hgo hbel
    have HBW := Lib.hid (show ∀ W, Below (b + 2) W1 W → Below w.heap.size w W from fun W hW => HB1.out.trans (hW.mono HSZW.out))
    by_cases hlt : c < CN
    · have q1 : decide ((c : Int) < (CN : Int)) = true := decide_eq_true (by omega)
      have q1n : decide (c < CN) = true := decide_eq_true hlt
      have q3 : IntKind.i64.wrap ((c : Int) + 1) = ((c + 1 : Nat) : Int) := wrap_succ hlt (by omega)
      have hX := HXA.out.below HBL.out (by omega)
      have p0 := hX.cell 0 (v := .pointer (some ⟨g, x, none⟩)) rfl
      have p1 := hX.cell 1 (v := .slice (some ⟨g, o, none⟩) d.n d.cap) rfl
      clear hX
      have HPC := Lib.hid (HPT.out wr c hlt (HBW.out _ HBL.out))
      obtain ⟨t, ht, htn, hdn1⟩ := HTN.out c hlt
      have HOFP := Lib.hid (fun (W : World) => HOF.out W ((d.f i).part c) t ht htn)
      have HTJ := Lib.hid (show ((d.f i).part c).t.toNat = t by omega)
      obtain ⟨x2, hgo2, hx2⟩ := seq_some (k := c + 1) (K := CN) hlt HSEQ.out
      have hst := seq_step hgo2
      obtain ⟨z', hz', hcase⟩ := hst
      rw [HGO.out] at hz'
      cases hz'
      have HX2 := Lib.hid hx2
      have HGO2 := Lib.hid hgo2
      have HPN := Lib.hid (HPI.out c hlt).1
      have HELD := Lib.hid (fun (u : Nat) (hu : u < ((d.f i).part c).d.n) => vRow_range (HPI.out c hlt).2.2.1 hu)
      have HMKD := Lib.hid (fun (u : Nat) (hu : u < ((d.f i).part c).d.n) => vin_mk ((HPI.out c hlt).2.2.2 u hu))
      have HDEFC := Lib.hid (fun (W : World) (hb : Below w.heap.size w W) (j : Nat) (hj : j < ((d.f i).part c).d.n) => HDEF.out W hb c hlt j hj t HTJ.out htn)
      have HQ1 := Lib.hid (fun (N' : Nat → ByteArray) (f' : Nat → VT) he ht h1 h2 => seqR_one (N' := N') (f' := f') HSQ.out he ht h1 h2)
      have HQD := Lib.hid (fun (N' : Nat → ByteArray) (f' : Nat → VT) he ht h1 => seqR_defs (N' := N') (f' := f') HSQ.out he ht h1)
      rw [HTJ.out] at hcase HQ1
      rw [list4] at HPC HOFP
      generalize ((d.f i).part c).d.f = df at *
      generalize ((d.f i).part c).name = pn at *
      generalize ((d.f i).part c).t = pt at *
      generalize ((d.f i).part c).opt = po at *
      generalize ((d.f i).part c).d.a = pda at *
      generalize ((d.f i).part c).d.n = pdn at *
      generalize ((d.f i).part c).d.cap = pdc at *
      obtain rfl : pt = (t : Int) := ht
      have HCASE := Lib.hid hcase
      clear hcase hgo2 hx2 HTJ HOF HPT HDEF HPI HTN HCT
      go_wp2_with fail
      refine HPC.out.mono ?_
      rintro e w3 ⟨rfl, h3⟩
      have HB4 := Lib.hid ((HBL.out.trans (h3.mono (by have h := HBL.out.size; rw [HSZ.out] at h; exact h))).alloc (by have h := HBL.out.size; rw [HSZ.out] at h; have := h3.size; omega) (.cells #[.string pn, .int .i64 (t : Nat), .bool po, .slice pda pdn pdc] 48))
      have HP4 := Lib.hid (Bx.new w3 #[.string pn, .int .i64 (t : Nat), .bool po, .slice pda pdn pdc] 48)
      have HCP4 := Lib.hid (HCPO.out.below (h3.alloc h3.size (.cells #[.string pn, .int .i64 (t : Nat), .bool po, .slice pda pdn pdc] 48)))
      have HLT4 := Lib.hid h3.size
      have f3 := HP4.out.cell 3 (v := .slice pda pdn pdc) rfl
      clear h3 p0 p1 HPC
      go_wp2_with (refine wpList_store_new rfl 48 (.tmp 10) (.tmp 21) rfl 4 _ [.string pn, .int .i64 (t : Nat), .bool po, .slice pda pdn pdc] rfl rfl (by kernel_rfl) (by simp [Value.oneCell']) rfl rfl ?_)
      have HS4 := Lib.hid (show (w3.alloc (.cells #[.string pn, .int .i64 (t : Nat), .bool po, .slice pda pdn pdc] 48)).heap.size = w3.heap.size + 1 from World.size_alloc ..)
      generalize w3.alloc (.cells #[.string pn, .int .i64 (t : Nat), .bool po, .slice pda pdn pdc] 48) = W4 at *
      obtain ⟨b4, hb4⟩ : ∃ b4, w3.heap.size = b4 := ⟨_, rfl⟩
      rw [hb4] at HP4 HS4 HLT4 ⊢
      clear hb4 f3
      have HBW4 := Lib.hid (HBW.out _ HB4.out)
      have hV4 := HXB.out.below HB4.out (by omega)
      have v3 := hV4.cell 3 (v := .slice nm.a nm.n nm.cap) rfl
      have v4 := hV4.cell 4 (v := .slice a nm.n cap) rfl
      have f0 := HP4.out.cell 0 (v := .string pn) rfl
      clear hV4
      by_cases hm : z < nm.n ∧ sEq (nm.f z) pn = true
      · obtain ⟨hh, he⟩ : h z t = true ∧ x2 = z + 1 := by
          rcases HCASE.out with ⟨_, h1, h2⟩ | ⟨h1, _⟩
          · exact ⟨h1, h2⟩
          · exact absurd hm h1
        subst he
        obtain ⟨hm1, hm2⟩ := hm
        have q2 : decide ((z : Int) < (nm.n : Int)) = true := decide_eq_true (by omega)
        have q2n : decide (z < nm.n) = true := decide_eq_true hm1
        have q7 : IntKind.i64.wrap ((z : Int) + 1) = (z : Int) + 1 := wrap_ok (by unfold I64; omega)
        obtain ⟨gs, os, hix, hcs0⟩ := HNM.out z hm1
        have hcs := hcs0 _ HBW4.out
        have hm3 : sEq (nm.f z) pn = true := hm2
        obtain ⟨un, hun⟩ : ∃ un, nm.f z = un := ⟨_, rfl⟩
        rw [hun] at hcs hm2
        have z1 : (un.toList == pn.toList) = true := hm2
        obtain ⟨gv, ov, hav, hgv, hcv⟩ := HVV.out.2.1.2.2.2 (by omega)
        subst hav
        obtain ⟨on, hon⟩ : ∃ on : Nat, 1 = on := ⟨_, rfl⟩
        have hsl : ∀ w, (Instr.slice 24 (.slice (some ⟨gv, ov, none⟩) nm.n cap) (some (.int .i64 (z : Nat))) (some (.int .i64 ((z : Int) + 1))) none).run Tryz.prog w = .ok (.slice (some ⟨gv, ov + z * 5, none⟩) on (cap - z)) w := fun w => by rw [← hon]; exact vSlice gv ov nm.n cap z hm1 HVV.out.2.1.1 w
        have HROW := Lib.hid (show RowAt w.heap.size w (some ⟨gv, ov + z * 5, none⟩) on (cap - z) 5 (fun i => (ch (z + i)).cells) from ⟨by have := HVV.out.2.1.1; omega, by omega, fun h => (by cases h), fun _ => ⟨gv, ov + z * 5, rfl, hgv, fun i hi j u hj => by
          have := hcv (z + i) (by omega) j u hj
          rwa [show ov + z * 5 + i * 5 + j = ov + (z + i) * 5 + j by omega]⟩⟩)
        have HON := Lib.hid (show on ≤ 1 by omega)
        obtain ⟨PE, hPE⟩ : ∃ PE : Nat → VT → Prop, (fun u => (ch (z + u)).full d t) = PE := ⟨_, rfl⟩
        have HPE := Lib.hid (show ∀ u y, (ch (z + u)).full d t y ↔ PE u y from fun u y => by rw [← hPE])
        have HIXO := Lib.hid (show ∀ u, u < on → ∃ gx ox : Nat, (∀ w, (Instr.indexAt 24 (.slice (some ⟨gv, ov + z * 5, none⟩) on (cap - z)) (.int .i64 (u : Nat))).run Tryz.prog w = .ok (.pointer (some ⟨gx, ox, none⟩)) w) ∧ ∀ W, Below w.heap.size w W → W.rangeAt gx ox (ch (z + u)).cells from fun u hu => by
          obtain ⟨gx, ox, h1, h2, h3⟩ := vRow_range HROW.out hu
          exact ⟨gx, ox, h1, fun W hW => h3 W (hW.block gx h2)⟩)
        have HMK := Lib.hid (fun (u : Nat) (hu : u < on) => vin_mk (HVV.out.2.2 (z + u) (by omega)))
        have HEO := Lib.hid (show ∀ u, u < on → ∀ W, Below w.heap.size w W → Calls Tryz.prog 35 #[.agg #[.pointer (some ⟨g, o + t * 12, none⟩), .slice (some ⟨g, o, none⟩) d.n d.cap], .agg (ch (z + u)).cells.toArray] W (CompOut W (PE u)) from fun u hu W hW => by
          rw [← hPE]
          exact HREC.out (z + u) (by omega) t htn (by rw [show z + u = z by omega, HH.out]; exact hh) W hW)
        have HEND := Lib.hid (show ∀ (N' : Nat → ByteArray) (f' : Nat → VT), (∀ i, i < y → N' i = N i ∧ f' i = f i) → (∀ u, u < on → N' (y + u) = pn ∧ PE u (f' (y + u))) → SeqR (d.f i) nm ⟨none, y + on, 0, N'⟩ (fun x y t => (ch x).full d t (f' y)) (fun k j y => leafOf (((d.f i).part k).d.f j) (f' y)) (c + 1) (z + 1) (y + on) from fun N' f' h1 h2 => (by
          have h3 := h2 0 (by omega)
          have h4 := (HPE.out 0 _).2 h3.2
          rw [Nat.add_zero] at h4
          have h5 := HQ1.out N' f' h1 ⟨hm1, hm3⟩ h3.1 h4
          rw [show y + 1 = y + on by omega] at h5
          exact h5))
        clear hon hun hm2 hm3 hcv hgv hPE hcs0 hh HROW HPE
        generalize ov + z * 5 = oz at *
        generalize cap - z = cz at *
        go_big_quiet (fail)
        go_wp2_with fail
        go_loopw [6, 7, 49] (fun nv lv iv wr => RelCi W1 W4 (b + 2) b4 y on pn N f PE nv lv iv wr) (fun _ _ iv _ => on - (Lib.intOf iv).toNat)
        case atStart => exact ⟨0, N, f, rfl, Nat.zero_le _, HCP4.out.below (below_drewM (Below.refl W4.heap.size W4) _), fun i hi => ⟨rfl, rfl⟩, fun i hi => absurd hi (Nat.not_lt_zero i), below_drewM HB4.out _, ⟨by show b4 < W4.heap.size; rw [HS4.out]; omega, rfl⟩, fun e => by have := (HCPO.out.nm.lt b4 e).2; have := HLT4.out; omega, fun e => by have := (HCPO.out.got.1.lt b4 e).2; have := HLT4.out; omega⟩
        case round =>
          obtain ⟨u, N', f', rfl, hu, hcp, hsame, hnew, hbel, hb4k, hn4, hl4⟩ := hrel
          have HCP := Lib.hid hcp
          have HSAME := Lib.hid hsame
          have HNEW := Lib.hid hnew
          have HBI := Lib.hid hbel
          have HB4K := Lib.hid hb4k
          have HN4 := Lib.hid hn4
          have HL4 := Lib.hid hl4
          clear hcp hsame hnew hbel hb4k hn4 hl4
          have hon1 := HON.out
          by_cases hlt2 : u < on
          · have q5 : decide ((u : Int) < (on : Int)) = true := decide_eq_true (by omega)
            have q5n : decide (u < on) = true := decide_eq_true hlt2
            have q6 : IntKind.i64.wrap ((u : Int) + 1) = ((u + 1 : Nat) : Int) := wrap_succ hlt2 (by omega)
            obtain ⟨gx, ox, hix, hrg⟩ := HIXO.out u hlt2
            obtain ⟨k0, m0, s0, nm0, a0, n0, cap0, c0, hv0⟩ := HMK.out u hlt2
            have HR := Lib.hid (fun (W : World) (hW : Below w.heap.size w W) => HEO.out u hlt2 W hW)
            have hrx := hrg wr (HBW.out _ HBI.out)
            rw [hv0] at hrx HR
            rw [list5] at hrx HR
            have HRX := Lib.hid hrx
            clear hrx hrg hv0
            have hlt13 : b + 2 ≤ wr.heap.size := by have h := HBI.out.size; rw [HSZ.out] at h; exact h
            have HL13 := Lib.hid hlt13
            have HK0 := Lib.hid (show K3 (wr.alloc (.cells #[.int .i64 k0, .int .i64 m0, .string s0, .slice nm0.a nm0.n nm0.cap, .slice a0 n0 cap0] 26)) b b4 wr.heap.size (wr.alloc (.cells #[.int .i64 k0, .int .i64 m0, .string s0, .slice nm0.a nm0.n nm0.cap, .slice a0 n0 cap0] 26)) from ⟨⟨by rw [World.size_alloc]; omega, rfl⟩, ⟨by rw [World.size_alloc]; have := HB4K.out.1; omega, rfl⟩, ⟨by rw [World.size_alloc]; omega, rfl⟩⟩)
            have HX13 := Lib.hid ((HXA.out.below HBI.out (by omega)).alloc (.cells #[.int .i64 k0, .int .i64 m0, .string s0, .slice nm0.a nm0.n nm0.cap, .slice a0 n0 cap0] 26))
            have HP13 := Lib.hid (show Bx (wr.alloc (.cells #[.int .i64 k0, .int .i64 m0, .string s0, .slice nm0.a nm0.n nm0.cap, .slice a0 n0 cap0] 26)) b4 #[.string pn, .int .i64 (t : Nat), .bool po, .slice pda pdn pdc] 48 from Bx.alloc (HB4K.out.2.trans HP4.out) _)
            have HE13 := Lib.hid (Bx.new wr #[.int .i64 k0, .int .i64 m0, .string s0, .slice nm0.a nm0.n nm0.cap, .slice a0 n0 cap0] 26)
            have HB13 := Lib.hid (HBI.out.alloc hlt13 (.cells #[.int .i64 k0, .int .i64 m0, .string s0, .slice nm0.a nm0.n nm0.cap, .slice a0 n0 cap0] 26))
            have HC13 := Lib.hid (HCP.out.below ((Below.refl wr.heap.size wr).alloc (Nat.le_refl _) (.cells #[.int .i64 k0, .int .i64 m0, .string s0, .slice nm0.a nm0.n nm0.cap, .slice a0 n0 cap0] 26)))
            have HB4L := Lib.hid (show (wr.alloc (.cells #[.int .i64 k0, .int .i64 m0, .string s0, .slice nm0.a nm0.n nm0.cap, .slice a0 n0 cap0] 26)).heap[b4]? = W4.heap[b4]? from (Below.heap_alloc wr _ b4 HB4K.out.1).trans HB4K.out.2)
            go_upto_region 15 with (first
              | (refine wpList_load_mid rfl 26 (.tmp 51) rfl gx ox rfl [.int .i64 k0, .int .i64 m0, .string s0, .slice nm0.a nm0.n nm0.cap, .slice a0 n0 cap0] _ HRX.out Tryz.underlying26 rfl (by rw [info_V]; rfl) ?_)
              | (refine wpList_store_new rfl 26 (.tmp 13) (.tmp 52) rfl 5 _ [.int .i64 k0, .int .i64 m0, .string s0, .slice nm0.a nm0.n nm0.cap, .slice a0 n0 cap0] rfl (by rfl) info_V (by simp [Value.oneCell']) rfl rfl ?_))
            have HS13 := Lib.hid (show (wr.alloc (.cells #[.int .i64 k0, .int .i64 m0, .string s0, .slice nm0.a nm0.n nm0.cap, .slice a0 n0 cap0] 26)).heap.size = wr.heap.size + 1 from World.size_alloc ..)
            generalize wr.alloc (.cells #[.int .i64 k0, .int .i64 m0, .string s0, .slice nm0.a nm0.n nm0.cap, .slice a0 n0 cap0] 26) = W13 at *
            obtain ⟨b13, hb13⟩ : ∃ b13, wr.heap.size = b13 := ⟨_, rfl⟩
            have HB13E := Lib.hid hb13
            rw [hb13] at HE13 HS13 HK0 ⊢
            clear hb13
            dsimp only [Act.put]
            have HS := Lib.hid (show ∀ W, K3 W13 b b4 b13 W → (W.cell? ⟨b, 0, none⟩ = some (.pointer (some ⟨g, x, none⟩)) ∧ W.cell? ⟨b, 1, none⟩ = some (.slice (some ⟨g, o, none⟩) d.n d.cap) ∧ W.cell? ⟨b4, 0, none⟩ = some (.string pn) ∧ W.cell? ⟨b4, 1, none⟩ = some (.int .i64 (t : Nat)) ∧ W.cell? ⟨b4, 2, none⟩ = some (.bool po) ∧ W.cell? ⟨b4, 3, none⟩ = some (.slice pda pdn pdc) ∧ W.cell? ⟨b13, 0, none⟩ = some (.int .i64 k0) ∧ W.cell? ⟨b13, 1, none⟩ = some (.int .i64 m0) ∧ W.cell? ⟨b13, 2, none⟩ = some (.string s0) ∧ W.cell? ⟨b13, 3, none⟩ = some (.slice nm0.a nm0.n nm0.cap) ∧ W.cell? ⟨b13, 4, none⟩ = some (.slice a0 n0 cap0)) from fun W hW => by
              have h1 : Bx W b #[.pointer (some ⟨g, x, none⟩), .slice (some ⟨g, o, none⟩) d.n d.cap] 72 := hW.1.2.trans HX13.out
              have h2 : Bx W b4 #[.string pn, .int .i64 (t : Nat), .bool po, .slice pda pdn pdc] 48 := hW.2.1.2.trans HP13.out
              have h3 : Bx W b13 #[.int .i64 k0, .int .i64 m0, .string s0, .slice nm0.a nm0.n nm0.cap, .slice a0 n0 cap0] 26 := hW.2.2.2.trans HE13.out
              exact ⟨h1.cell 0 rfl, h1.cell 1 rfl, h2.cell 0 rfl, h2.cell 1 rfl, h2.cell 2 rfl, h2.cell 3 rfl, h3.cell 0 rfl, h3.cell 1 rfl, h3.cell 2 rfl, h3.cell 3 rfl, h3.cell 4 rfl⟩)
            have HOWN := Lib.hid (show ∀ q, (u6.ownBlock = some q ∨ u7.ownBlock = some q) → b + 2 ≤ q ∧ q < b13 ∧ q ≠ b4 from fun q hq => by
              rcases hq with e | e
              · have := HCP.out.nm.lt q e
                exact ⟨this.1, by have := HB13E.out; omega, fun e2 => HN4.out (by rw [← e2]; exact e)⟩
              · have := HCP.out.got.1.lt q e
                exact ⟨this.1, by have := HB13E.out; omega, fun e2 => HL4.out (by rw [← e2]; exact e)⟩)
            have HBD := Lib.hid (show Below W13.heap.size W13 W13.drew from Below.drew (Below.refl _ _))
            have HBA0 := Lib.hid ((Below.refl W13.heap.size W13).trans (HBD.out.alloc (Nat.le_refl _) (.cells #[.string pn] 9)))
            have HCA := Lib.hid (HC13.out.below HBA0.out)
            have HKA := Lib.hid (HK0.out.below HBA0.out)
            have HBA := Lib.hid (HB13.out.trans (HBA0.out.mono (by rw [HS13.out]; have := HB13E.out; have := HL13.out; omega)))
            have HSA := Lib.hid (HS.out _ HKA.out)
            have HS0 := Lib.hid (HS.out _ (HK0.out.below HBD.out))
            go_region_held3 (fun W => W.cell? ⟨b, 0, none⟩ = some (.pointer (some ⟨g, x, none⟩)) ∧ W.cell? ⟨b, 1, none⟩ = some (.slice (some ⟨g, o, none⟩) d.n d.cap) ∧ W.cell? ⟨b4, 0, none⟩ = some (.string pn) ∧ W.cell? ⟨b4, 1, none⟩ = some (.int .i64 (t : Nat)) ∧ W.cell? ⟨b4, 2, none⟩ = some (.bool po) ∧ W.cell? ⟨b4, 3, none⟩ = some (.slice pda pdn pdc) ∧ W.cell? ⟨b13, 0, none⟩ = some (.int .i64 k0) ∧ W.cell? ⟨b13, 1, none⟩ = some (.int .i64 m0) ∧ W.cell? ⟨b13, 2, none⟩ = some (.string s0) ∧ W.cell? ⟨b13, 3, none⟩ = some (.slice nm0.a nm0.n nm0.cap) ∧ W.cell? ⟨b13, 4, none⟩ = some (.slice a0 n0 cap0)) (first | with_reducible exact HS0.out | with_reducible exact HSA.out | with_reducible exact HS57.out | with_reducible exact HS61.out | with_reducible exact HS63.out | with_reducible exact HS64.out | with_reducible exact HS65.out | exact HSA.out | exact HS64.out) (first
              | (refine step_append_lies _ (by rfl) (.tmp 53) (.tmp 56) 23 (by rfl) (b + 2) 9 j0 (.string ⟨#[]⟩) 1 16 Tryz.underlying23 hj0 hy0 hy1 hy2 rfl (by decide) u6 (y + u) (strsV N' (y + u)) (by rfl) HCA.out.nm ⟨W13.heap.size, 0, none⟩ 1 1 [.string pn] (by rfl) (by rfl) (World.news_of_block (Bx.new W13.drew #[.string pn] 9)) (by simp [Value.oneCell']) (by decide) (by unfold maxLen; omega) (by omega) (by have h := HBA.out.size; rw [HSZ.out] at h; exact h) (W13.heap.size + 1) (World.size_alloc ..) ?_; intro g1 cap1 w57 ho hg hat hl57
                 have HC57 := Lib.hid (HCA.out.addName HPN.out ho hg (by rw [show (W13.drew.alloc (.cells #[.string pn] 9)).heap.size = W13.heap.size + 1 from World.size_alloc ..]; exact hat))
                 have HK57 := Lib.hid (HKA.out.grown hg ⟨fun e => by have := (HOWN.out _ (.inl e)).1; omega, fun e => (HOWN.out _ (.inl e)).2.2 rfl, fun e => by have := (HOWN.out _ (.inl e)).2.1; omega⟩)
                 have HB57 := Lib.hid (HBA.out.grown hg (by have h := HBA.out.size; rw [HSZ.out] at h; exact h) (fun q hq => (HOWN.out q (.inl hq)).1))
                 have HG1 := Lib.hid (show g1 ≠ b4 ∧ g1 < w57.heap.size from ⟨fun e => by
                   rcases hat with h1 | h1
                   · exact (HOWN.out g1 (.inl h1)).2.2 e
                   · have := HK0.out.2.1.1; omega, hl57⟩)
                 have HS57 := Lib.hid (HS.out _ HK57.out)
                 clear ho hg hat hl57)
              | (go_at_call 54; (with_reducible refine (HOFP.out _).mono ?_); rintro e w61 ⟨rfl, h61⟩
                 have HC61 := Lib.hid (HC57.out.below h61)
                 have HK61 := Lib.hid (HK57.out.below h61)
                 have HB61 := Lib.hid (HB57.out.trans (h61.mono (by have h := HB57.out.size; rw [HSZ.out] at h; exact h)))
                 have HG61 := Lib.hid (Nat.lt_of_lt_of_le HG1.out.2 h61.size)
                 have HS61 := Lib.hid (HS.out _ HK61.out)
                 clear h61)
              | (go_at_call 35; (with_reducible refine (HR.out _ (HBW.out _ HB61.out)).mono ?_); rintro e w63 ⟨v1, rfl, hvi, hvb, hfu, h63⟩; obtain ⟨k1, m1, s1, nm1, a1, n1, cap1', ch1, rfl⟩ := vin_mk hvi; rw [list5]
                 have HC63 := Lib.hid (HC61.out.below h63)
                 have HK63 := Lib.hid (HK61.out.below h63)
                 have HB63 := Lib.hid (HB61.out.trans (h63.mono (by have h := HB61.out.size; rw [HSZ.out] at h; exact h)))
                 have HS63 := Lib.hid (HS.out _ HK63.out)
                 have HA64 := Lib.hid ((Below.refl w63.heap.size w63).alloc (Nat.le_refl _) (.cells #[.int .i64 k1, .int .i64 m1, .string s1, .slice nm1.a nm1.n nm1.cap, .slice a1 n1 cap1'] 26))
                 have HC64 := Lib.hid (HC63.out.below HA64.out)
                 have HK64 := Lib.hid (HK63.out.below HA64.out)
                 have HB64 := Lib.hid (HB63.out.trans (HA64.out.mono (by have h := HB63.out.size; rw [HSZ.out] at h; exact h)))
                 have HS64 := Lib.hid (HS.out _ HK64.out)
                 have HV1 := Lib.hid ((hvi.below HA64.out (Nat.le_refl _)).below (Below.refl _ _) HA64.out.size)
                 have HVB := Lib.hid hvb
                 have HFU := Lib.hid hfu
                 have HL61 := Lib.hid (show b13 < w61.heap.size from HK61.out.2.2.1)
                 clear hvi hvb hfu h63)
              | (refine step_append_lies _ (by rfl) (.tmp 58) (.tmp 64) 24 (by rfl) (b + 2) 26 i0 zeroV 5 80 Tryz.underlying24 hi0 hz0 hz1 hz2 rfl (by decide) u7 (y + u) (flatV f' (y + u)) (by rfl) HC64.out.got.1 ⟨w63.heap.size, 0, none⟩ 1 1 [.int .i64 k1, .int .i64 m1, .string s1, .slice nm1.a nm1.n nm1.cap, .slice a1 n1 cap1'] (by rfl) (by rfl) (World.news_of_block (Bx.new w63 #[.int .i64 k1, .int .i64 m1, .string s1, .slice nm1.a nm1.n nm1.cap, .slice a1 n1 cap1'] 26)) (by simp [Value.oneCell']) (by decide) (by unfold maxLen; omega) (by omega) (by have h := HB64.out.size; rw [HSZ.out] at h; exact h) (w63.heap.size + 1) (World.size_alloc ..) ?_; intro g2 cap2 w65 ho hg hat hl65
                 have HC65 := Lib.hid (HC64.out.addVal (x := .mk k1 m1 s1 nm1 a1 n1 cap1' ch1) HV1.out (HVB.out.mono fun q hq => ⟨by have : w61.heap.size ≤ q := hq; have := HL61.out; have := HB13E.out; have := HL13.out; omega, fun e => by have : w61.heap.size ≤ q := hq; have := (HOWN.out q (.inr e.symm)).2.1; have := HL61.out; omega⟩) (HVB.out.mono fun q hq e => by have h1 : w61.heap.size ≤ q := hq; have h2 : q = g1 := (by simpa [Value.ownBlock] using e); have := HG61.out; omega) ho hg (by rw [show (w63.alloc (.cells #[.int .i64 k1, .int .i64 m1, .string s1, .slice nm1.a nm1.n nm1.cap, .slice a1 n1 cap1'] 26)).heap.size = w63.heap.size + 1 from World.size_alloc ..]; exact hat))
                 have HK65 := Lib.hid (HK64.out.grown hg ⟨fun e => by have := (HOWN.out _ (.inr e)).1; omega, fun e => (HOWN.out _ (.inr e)).2.2 rfl, fun e => by have := (HOWN.out _ (.inr e)).2.1; omega⟩)
                 have HB65 := Lib.hid (HB64.out.grown hg (by have h := HB64.out.size; rw [HSZ.out] at h; exact h) (fun q hq => (HOWN.out q (.inr hq)).1))
                 have HG2 := Lib.hid (show g2 ≠ b4 from fun e => by
                   rcases hat with h1 | h1
                   · exact (HOWN.out g2 (.inr h1)).2.2 e
                   · have := HK63.out.2.1.1; omega)
                 have HS65 := Lib.hid (HS.out _ HK65.out)
                 clear ho hg hat hl65))
            go_wp2_with fail
            go_roundw
            case rel => exact ⟨u + 1, _, _, rfl, hlt2, HC65.out, fun i hi => ⟨by rw [if_pos (by omega)]; exact (HSAME.out i hi).1, by rw [if_pos (by omega)]; exact (HSAME.out i hi).2⟩, fun i hi => by
                by_cases h1 : i < u
                · rw [if_pos (show y + i < y + u by omega), if_pos (show y + i < y + u by omega)]; exact HNEW.out i h1
                · rw [if_neg (show ¬ y + i < y + u by omega), if_neg (show ¬ y + i < y + u by omega), show i = u by omega]; exact ⟨rfl, HFU.out⟩, HB65.out, ⟨HK65.out.2.1.1, HK65.out.2.1.2.trans HB4L.out⟩, fun e => HG1.out.1 (by simpa [Value.ownBlock] using e), fun e => HG2.out (by simpa [Value.ownBlock] using e)⟩
            case measure => simp only [Lib.intOf]; omega
          · have q5 : decide ((u : Int) < (on : Int)) = false := decide_eq_false (by omega)
            have q5n : decide (u < on) = false := decide_eq_false hlt2
            obtain rfl : u = on := by omega
            have HFIN := Lib.hid (HEND.out N' f' HSAME.out HNEW.out)
            go_wp2_with fail
            go_roundw
            case rel => exact ⟨c + 1, _, y + u, N', f', rfl, by first | rfl | simp, hlt, HX2.out, by omega, HCP.out, HFIN.out, HGO2.out, HBI.out⟩
            case measure => simp only [Lib.intOf]; omega
      · have he : x2 = z := by
          rcases HCASE.out with ⟨h1, _⟩ | ⟨_, _, h2⟩
          · exact absurd h1 hm
          · exact h2
        rw [he] at HX2 HGO2
        clear he HCASE
        have HON := Lib.hid hdn1
        have HIXO := Lib.hid (show ∀ u, u < pdn → ∃ gx ox : Nat, (∀ w, (Instr.indexAt 24 (.slice pda pdn pdc) (.int .i64 (u : Nat))).run Tryz.prog w = .ok (.pointer (some ⟨gx, ox, none⟩)) w) ∧ ∀ W, Below w.heap.size w W → W.rangeAt gx ox (df u).cells from fun u hu => by
          obtain ⟨gx, ox, h1, h2, h3⟩ := HELD.out u hu
          exact ⟨gx, ox, h1, fun W hW => h3 W (hW.block gx h2)⟩)
        have HMK := Lib.hid (fun (u : Nat) (hu : u < pdn) => HMKD.out u hu)
        obtain ⟨PE, hPE⟩ : ∃ PE : Nat → VT → Prop, (fun u => leafOf (df u)) = PE := ⟨_, rfl⟩
        have HEO := Lib.hid (show ∀ u, u < pdn → ∀ W, Below w.heap.size w W → Calls Tryz.prog 35 #[.agg #[.pointer (some ⟨g, o + t * 12, none⟩), .slice (some ⟨g, o, none⟩) d.n d.cap], .agg (df u).cells.toArray] W (CompOut W (PE u)) from fun u hu W hW => by
          rw [← hPE]
          exact HDEFC.out W hW u hu)
        have HEND := Lib.hid (show ∀ (N' : Nat → ByteArray) (f' : Nat → VT), (∀ i, i < y → N' i = N i ∧ f' i = f i) → (∀ u, u < pdn → N' (y + u) = pn ∧ PE u (f' (y + u))) → SeqR (d.f i) nm ⟨none, y + pdn, 0, N'⟩ (fun x y t => (ch x).full d t (f' y)) (fun k j y => leafOf (((d.f i).part k).d.f j) (f' y)) (c + 1) z (y + pdn) from fun N' f' h1 h2 => HQD.out N' f' h1 hm (fun u hu => ⟨(h2 u hu).1, by have := (h2 u hu).2; rw [← hPE] at this; exact this⟩))
        have HNO := Lib.hid hm
        clear hPE hm
        by_cases hm1 : z < nm.n
        · have q2 : decide ((z : Int) < (nm.n : Int)) = true := decide_eq_true (by omega)
          have q2n : decide (z < nm.n) = true := decide_eq_true hm1
          obtain ⟨gs, os, hix, hcs0⟩ := HNM.out z hm1
          have hcs := hcs0 _ HBW4.out
          have hm2 : sEq (nm.f z) pn = false := by
            cases e : sEq (nm.f z) pn with
            | false => rfl
            | true => exact absurd ⟨hm1, e⟩ HNO.out
          obtain ⟨un, hun⟩ : ∃ un, nm.f z = un := ⟨_, rfl⟩
          rw [hun] at hcs hm2
          have z1 : (un.toList == pn.toList) = false := hm2
          clear hun hm2 hcs0
          go_big_quiet (fail)
          go_wp2_with fail
          go_loopw [6, 7, 49] (fun nv lv iv wr => RelCi W1 W4 (b + 2) b4 y pdn pn N f PE nv lv iv wr) (fun _ _ iv _ => pdn - (Lib.intOf iv).toNat)
          case atStart => exact ⟨0, N, f, rfl, Nat.zero_le _, HCP4.out.below (below_drewM (Below.refl W4.heap.size W4) _), fun i hi => ⟨rfl, rfl⟩, fun i hi => absurd hi (Nat.not_lt_zero i), below_drewM HB4.out _, ⟨by show b4 < W4.heap.size; rw [HS4.out]; omega, rfl⟩, fun e => by have := (HCPO.out.nm.lt b4 e).2; have := HLT4.out; omega, fun e => by have := (HCPO.out.got.1.lt b4 e).2; have := HLT4.out; omega⟩
          case round =>
            obtain ⟨u, N', f', rfl, hu, hcp, hsame, hnew, hbel, hb4k, hn4, hl4⟩ := hrel
            have HCP := Lib.hid hcp
            have HSAME := Lib.hid hsame
            have HNEW := Lib.hid hnew
            have HBI := Lib.hid hbel
            have HB4K := Lib.hid hb4k
            have HN4 := Lib.hid hn4
            have HL4 := Lib.hid hl4
            clear hcp hsame hnew hbel hb4k hn4 hl4
            have hon1 := HON.out
            by_cases hlt2 : u < pdn
            · have q5 : decide ((u : Int) < (pdn : Int)) = true := decide_eq_true (by omega)
              have q5n : decide (u < pdn) = true := decide_eq_true hlt2
              have q6 : IntKind.i64.wrap ((u : Int) + 1) = ((u + 1 : Nat) : Int) := wrap_succ hlt2 (by omega)
              obtain ⟨gx, ox, hix, hrg⟩ := HIXO.out u hlt2
              obtain ⟨k0, m0, s0, nm0, a0, n0, cap0, c0, hv0⟩ := HMK.out u hlt2
              have HR := Lib.hid (fun (W : World) (hW : Below w.heap.size w W) => HEO.out u hlt2 W hW)
              have hrx := hrg wr (HBW.out _ HBI.out)
              rw [hv0] at hrx HR
              rw [list5] at hrx HR
              have HRX := Lib.hid hrx
              clear hrx hrg hv0
              have hlt13 : b + 2 ≤ wr.heap.size := by have h := HBI.out.size; rw [HSZ.out] at h; exact h
              have HL13 := Lib.hid hlt13
              have HK0 := Lib.hid (show K3 (wr.alloc (.cells #[.int .i64 k0, .int .i64 m0, .string s0, .slice nm0.a nm0.n nm0.cap, .slice a0 n0 cap0] 26)) b b4 wr.heap.size (wr.alloc (.cells #[.int .i64 k0, .int .i64 m0, .string s0, .slice nm0.a nm0.n nm0.cap, .slice a0 n0 cap0] 26)) from ⟨⟨by rw [World.size_alloc]; omega, rfl⟩, ⟨by rw [World.size_alloc]; have := HB4K.out.1; omega, rfl⟩, ⟨by rw [World.size_alloc]; omega, rfl⟩⟩)
              have HX13 := Lib.hid ((HXA.out.below HBI.out (by omega)).alloc (.cells #[.int .i64 k0, .int .i64 m0, .string s0, .slice nm0.a nm0.n nm0.cap, .slice a0 n0 cap0] 26))
              have HP13 := Lib.hid (show Bx (wr.alloc (.cells #[.int .i64 k0, .int .i64 m0, .string s0, .slice nm0.a nm0.n nm0.cap, .slice a0 n0 cap0] 26)) b4 #[.string pn, .int .i64 (t : Nat), .bool po, .slice pda pdn pdc] 48 from Bx.alloc (HB4K.out.2.trans HP4.out) _)
              have HE13 := Lib.hid (Bx.new wr #[.int .i64 k0, .int .i64 m0, .string s0, .slice nm0.a nm0.n nm0.cap, .slice a0 n0 cap0] 26)
              have HB13 := Lib.hid (HBI.out.alloc hlt13 (.cells #[.int .i64 k0, .int .i64 m0, .string s0, .slice nm0.a nm0.n nm0.cap, .slice a0 n0 cap0] 26))
              have HC13 := Lib.hid (HCP.out.below ((Below.refl wr.heap.size wr).alloc (Nat.le_refl _) (.cells #[.int .i64 k0, .int .i64 m0, .string s0, .slice nm0.a nm0.n nm0.cap, .slice a0 n0 cap0] 26)))
              have HB4L := Lib.hid (show (wr.alloc (.cells #[.int .i64 k0, .int .i64 m0, .string s0, .slice nm0.a nm0.n nm0.cap, .slice a0 n0 cap0] 26)).heap[b4]? = W4.heap[b4]? from (Below.heap_alloc wr _ b4 HB4K.out.1).trans HB4K.out.2)
              go_upto_region 15 with (first
                | (refine wpList_load_mid rfl 26 (.tmp 51) rfl gx ox rfl [.int .i64 k0, .int .i64 m0, .string s0, .slice nm0.a nm0.n nm0.cap, .slice a0 n0 cap0] _ HRX.out Tryz.underlying26 rfl (by rw [info_V]; rfl) ?_)
                | (refine wpList_store_new rfl 26 (.tmp 13) (.tmp 52) rfl 5 _ [.int .i64 k0, .int .i64 m0, .string s0, .slice nm0.a nm0.n nm0.cap, .slice a0 n0 cap0] rfl (by rfl) info_V (by simp [Value.oneCell']) rfl rfl ?_))
              have HS13 := Lib.hid (show (wr.alloc (.cells #[.int .i64 k0, .int .i64 m0, .string s0, .slice nm0.a nm0.n nm0.cap, .slice a0 n0 cap0] 26)).heap.size = wr.heap.size + 1 from World.size_alloc ..)
              generalize wr.alloc (.cells #[.int .i64 k0, .int .i64 m0, .string s0, .slice nm0.a nm0.n nm0.cap, .slice a0 n0 cap0] 26) = W13 at *
              obtain ⟨b13, hb13⟩ : ∃ b13, wr.heap.size = b13 := ⟨_, rfl⟩
              have HB13E := Lib.hid hb13
              rw [hb13] at HE13 HS13 HK0 ⊢
              clear hb13
              dsimp only [Act.put]
              have HS := Lib.hid (show ∀ W, K3 W13 b b4 b13 W → (W.cell? ⟨b, 0, none⟩ = some (.pointer (some ⟨g, x, none⟩)) ∧ W.cell? ⟨b, 1, none⟩ = some (.slice (some ⟨g, o, none⟩) d.n d.cap) ∧ W.cell? ⟨b4, 0, none⟩ = some (.string pn) ∧ W.cell? ⟨b4, 1, none⟩ = some (.int .i64 (t : Nat)) ∧ W.cell? ⟨b4, 2, none⟩ = some (.bool po) ∧ W.cell? ⟨b4, 3, none⟩ = some (.slice pda pdn pdc) ∧ W.cell? ⟨b13, 0, none⟩ = some (.int .i64 k0) ∧ W.cell? ⟨b13, 1, none⟩ = some (.int .i64 m0) ∧ W.cell? ⟨b13, 2, none⟩ = some (.string s0) ∧ W.cell? ⟨b13, 3, none⟩ = some (.slice nm0.a nm0.n nm0.cap) ∧ W.cell? ⟨b13, 4, none⟩ = some (.slice a0 n0 cap0)) from fun W hW => by
                have h1 : Bx W b #[.pointer (some ⟨g, x, none⟩), .slice (some ⟨g, o, none⟩) d.n d.cap] 72 := hW.1.2.trans HX13.out
                have h2 : Bx W b4 #[.string pn, .int .i64 (t : Nat), .bool po, .slice pda pdn pdc] 48 := hW.2.1.2.trans HP13.out
                have h3 : Bx W b13 #[.int .i64 k0, .int .i64 m0, .string s0, .slice nm0.a nm0.n nm0.cap, .slice a0 n0 cap0] 26 := hW.2.2.2.trans HE13.out
                exact ⟨h1.cell 0 rfl, h1.cell 1 rfl, h2.cell 0 rfl, h2.cell 1 rfl, h2.cell 2 rfl, h2.cell 3 rfl, h3.cell 0 rfl, h3.cell 1 rfl, h3.cell 2 rfl, h3.cell 3 rfl, h3.cell 4 rfl⟩)
              have HOWN := Lib.hid (show ∀ q, (u6.ownBlock = some q ∨ u7.ownBlock = some q) → b + 2 ≤ q ∧ q < b13 ∧ q ≠ b4 from fun q hq => by
                rcases hq with e | e
                · have := HCP.out.nm.lt q e
                  exact ⟨this.1, by have := HB13E.out; omega, fun e2 => HN4.out (by rw [← e2]; exact e)⟩
                · have := HCP.out.got.1.lt q e
                  exact ⟨this.1, by have := HB13E.out; omega, fun e2 => HL4.out (by rw [← e2]; exact e)⟩)
              have HBD := Lib.hid (show Below W13.heap.size W13 W13.drew from Below.drew (Below.refl _ _))
              have HBA0 := Lib.hid ((Below.refl W13.heap.size W13).trans (HBD.out.alloc (Nat.le_refl _) (.cells #[.string pn] 9)))
              have HCA := Lib.hid (HC13.out.below HBA0.out)
              have HKA := Lib.hid (HK0.out.below HBA0.out)
              have HBA := Lib.hid (HB13.out.trans (HBA0.out.mono (by rw [HS13.out]; have := HB13E.out; have := HL13.out; omega)))
              have HSA := Lib.hid (HS.out _ HKA.out)
              have HS0 := Lib.hid (HS.out _ (HK0.out.below HBD.out))
              go_region_held3 (fun W => W.cell? ⟨b, 0, none⟩ = some (.pointer (some ⟨g, x, none⟩)) ∧ W.cell? ⟨b, 1, none⟩ = some (.slice (some ⟨g, o, none⟩) d.n d.cap) ∧ W.cell? ⟨b4, 0, none⟩ = some (.string pn) ∧ W.cell? ⟨b4, 1, none⟩ = some (.int .i64 (t : Nat)) ∧ W.cell? ⟨b4, 2, none⟩ = some (.bool po) ∧ W.cell? ⟨b4, 3, none⟩ = some (.slice pda pdn pdc) ∧ W.cell? ⟨b13, 0, none⟩ = some (.int .i64 k0) ∧ W.cell? ⟨b13, 1, none⟩ = some (.int .i64 m0) ∧ W.cell? ⟨b13, 2, none⟩ = some (.string s0) ∧ W.cell? ⟨b13, 3, none⟩ = some (.slice nm0.a nm0.n nm0.cap) ∧ W.cell? ⟨b13, 4, none⟩ = some (.slice a0 n0 cap0)) (first | with_reducible exact HS0.out | with_reducible exact HSA.out | with_reducible exact HS57.out | with_reducible exact HS61.out | with_reducible exact HS63.out | with_reducible exact HS64.out | with_reducible exact HS65.out | exact HSA.out | exact HS64.out) (first
                | (refine step_append_lies _ (by rfl) (.tmp 53) (.tmp 56) 23 (by rfl) (b + 2) 9 j0 (.string ⟨#[]⟩) 1 16 Tryz.underlying23 hj0 hy0 hy1 hy2 rfl (by decide) u6 (y + u) (strsV N' (y + u)) (by rfl) HCA.out.nm ⟨W13.heap.size, 0, none⟩ 1 1 [.string pn] (by rfl) (by rfl) (World.news_of_block (Bx.new W13.drew #[.string pn] 9)) (by simp [Value.oneCell']) (by decide) (by unfold maxLen; omega) (by omega) (by have h := HBA.out.size; rw [HSZ.out] at h; exact h) (W13.heap.size + 1) (World.size_alloc ..) ?_; intro g1 cap1 w57 ho hg hat hl57
                   have HC57 := Lib.hid (HCA.out.addName HPN.out ho hg (by rw [show (W13.drew.alloc (.cells #[.string pn] 9)).heap.size = W13.heap.size + 1 from World.size_alloc ..]; exact hat))
                   have HK57 := Lib.hid (HKA.out.grown hg ⟨fun e => by have := (HOWN.out _ (.inl e)).1; omega, fun e => (HOWN.out _ (.inl e)).2.2 rfl, fun e => by have := (HOWN.out _ (.inl e)).2.1; omega⟩)
                   have HB57 := Lib.hid (HBA.out.grown hg (by have h := HBA.out.size; rw [HSZ.out] at h; exact h) (fun q hq => (HOWN.out q (.inl hq)).1))
                   have HG1 := Lib.hid (show g1 ≠ b4 ∧ g1 < w57.heap.size from ⟨fun e => by
                     rcases hat with h1 | h1
                     · exact (HOWN.out g1 (.inl h1)).2.2 e
                     · have := HK0.out.2.1.1; omega, hl57⟩)
                   have HS57 := Lib.hid (HS.out _ HK57.out)
                   clear ho hg hat hl57)
                | (go_at_call 54; (with_reducible refine (HOFP.out _).mono ?_); rintro e w61 ⟨rfl, h61⟩
                   have HC61 := Lib.hid (HC57.out.below h61)
                   have HK61 := Lib.hid (HK57.out.below h61)
                   have HB61 := Lib.hid (HB57.out.trans (h61.mono (by have h := HB57.out.size; rw [HSZ.out] at h; exact h)))
                   have HG61 := Lib.hid (Nat.lt_of_lt_of_le HG1.out.2 h61.size)
                   have HS61 := Lib.hid (HS.out _ HK61.out)
                   clear h61)
                | (go_at_call 35; (with_reducible refine (HR.out _ (HBW.out _ HB61.out)).mono ?_); rintro e w63 ⟨v1, rfl, hvi, hvb, hfu, h63⟩; obtain ⟨k1, m1, s1, nm1, a1, n1, cap1', ch1, rfl⟩ := vin_mk hvi; rw [list5]
                   have HC63 := Lib.hid (HC61.out.below h63)
                   have HK63 := Lib.hid (HK61.out.below h63)
                   have HB63 := Lib.hid (HB61.out.trans (h63.mono (by have h := HB61.out.size; rw [HSZ.out] at h; exact h)))
                   have HS63 := Lib.hid (HS.out _ HK63.out)
                   have HA64 := Lib.hid ((Below.refl w63.heap.size w63).alloc (Nat.le_refl _) (.cells #[.int .i64 k1, .int .i64 m1, .string s1, .slice nm1.a nm1.n nm1.cap, .slice a1 n1 cap1'] 26))
                   have HC64 := Lib.hid (HC63.out.below HA64.out)
                   have HK64 := Lib.hid (HK63.out.below HA64.out)
                   have HB64 := Lib.hid (HB63.out.trans (HA64.out.mono (by have h := HB63.out.size; rw [HSZ.out] at h; exact h)))
                   have HS64 := Lib.hid (HS.out _ HK64.out)
                   have HV1 := Lib.hid ((hvi.below HA64.out (Nat.le_refl _)).below (Below.refl _ _) HA64.out.size)
                   have HVB := Lib.hid hvb
                   have HFU := Lib.hid hfu
                   have HL61 := Lib.hid (show b13 < w61.heap.size from HK61.out.2.2.1)
                   clear hvi hvb hfu h63)
                | (refine step_append_lies _ (by rfl) (.tmp 58) (.tmp 64) 24 (by rfl) (b + 2) 26 i0 zeroV 5 80 Tryz.underlying24 hi0 hz0 hz1 hz2 rfl (by decide) u7 (y + u) (flatV f' (y + u)) (by rfl) HC64.out.got.1 ⟨w63.heap.size, 0, none⟩ 1 1 [.int .i64 k1, .int .i64 m1, .string s1, .slice nm1.a nm1.n nm1.cap, .slice a1 n1 cap1'] (by rfl) (by rfl) (World.news_of_block (Bx.new w63 #[.int .i64 k1, .int .i64 m1, .string s1, .slice nm1.a nm1.n nm1.cap, .slice a1 n1 cap1'] 26)) (by simp [Value.oneCell']) (by decide) (by unfold maxLen; omega) (by omega) (by have h := HB64.out.size; rw [HSZ.out] at h; exact h) (w63.heap.size + 1) (World.size_alloc ..) ?_; intro g2 cap2 w65 ho hg hat hl65
                   have HC65 := Lib.hid (HC64.out.addVal (x := .mk k1 m1 s1 nm1 a1 n1 cap1' ch1) HV1.out (HVB.out.mono fun q hq => ⟨by have : w61.heap.size ≤ q := hq; have := HL61.out; have := HB13E.out; have := HL13.out; omega, fun e => by have : w61.heap.size ≤ q := hq; have := (HOWN.out q (.inr e.symm)).2.1; have := HL61.out; omega⟩) (HVB.out.mono fun q hq e => by have h1 : w61.heap.size ≤ q := hq; have h2 : q = g1 := (by simpa [Value.ownBlock] using e); have := HG61.out; omega) ho hg (by rw [show (w63.alloc (.cells #[.int .i64 k1, .int .i64 m1, .string s1, .slice nm1.a nm1.n nm1.cap, .slice a1 n1 cap1'] 26)).heap.size = w63.heap.size + 1 from World.size_alloc ..]; exact hat))
                   have HK65 := Lib.hid (HK64.out.grown hg ⟨fun e => by have := (HOWN.out _ (.inr e)).1; omega, fun e => (HOWN.out _ (.inr e)).2.2 rfl, fun e => by have := (HOWN.out _ (.inr e)).2.1; omega⟩)
                   have HB65 := Lib.hid (HB64.out.grown hg (by have h := HB64.out.size; rw [HSZ.out] at h; exact h) (fun q hq => (HOWN.out q (.inr hq)).1))
                   have HG2 := Lib.hid (show g2 ≠ b4 from fun e => by
                     rcases hat with h1 | h1
                     · exact (HOWN.out g2 (.inr h1)).2.2 e
                     · have := HK63.out.2.1.1; omega)
                   have HS65 := Lib.hid (HS.out _ HK65.out)
                   clear ho hg hat hl65))
              go_wp2_with fail
              go_roundw
              case rel => exact ⟨u + 1, _, _, rfl, hlt2, HC65.out, fun i hi => ⟨by rw [if_pos (by omega)]; exact (HSAME.out i hi).1, by rw [if_pos (by omega)]; exact (HSAME.out i hi).2⟩, fun i hi => by
                  by_cases h1 : i < u
                  · rw [if_pos (show y + i < y + u by omega), if_pos (show y + i < y + u by omega)]; exact HNEW.out i h1
                  · rw [if_neg (show ¬ y + i < y + u by omega), if_neg (show ¬ y + i < y + u by omega), show i = u by omega]; exact ⟨rfl, HFU.out⟩, HB65.out, ⟨HK65.out.2.1.1, HK65.out.2.1.2.trans HB4L.out⟩, fun e => HG1.out.1 (by simpa [Value.ownBlock] using e), fun e => HG2.out (by simpa [Value.ownBlock] using e)⟩
              case measure => simp only [Lib.intOf]; omega
            · have q5 : decide ((u : Int) < (pdn : Int)) = false := decide_eq_false (by omega)
              have q5n : decide (u < pdn) = false := decide_eq_false hlt2
              obtain rfl : u = pdn := by omega
              have HFIN := Lib.hid (HEND.out N' f' HSAME.out HNEW.out)
              go_wp2_with fail
              go_roundw
              case rel => exact ⟨c + 1, _, y + u, N', f', rfl, by first | rfl | simp, hlt, HX2.out, by omega, HCP.out, HFIN.out, HGO2.out, HBI.out⟩
              case measure => simp only [Lib.intOf]; omega
        · have q2 : decide ((z : Int) < (nm.n : Int)) = false := decide_eq_false (by omega)
          have q2n : decide (z < nm.n) = false := decide_eq_false hm1
          go_big_quiet (fail)
          go_wp2_with fail
          go_loopw [6, 7, 49] (fun nv lv iv wr => RelCi W1 W4 (b + 2) b4 y pdn pn N f PE nv lv iv wr) (fun _ _ iv _ => pdn - (Lib.intOf iv).toNat)
          case atStart => exact ⟨0, N, f, rfl, Nat.zero_le _, HCP4.out.below (below_drewM (Below.refl W4.heap.size W4) _), fun i hi => ⟨rfl, rfl⟩, fun i hi => absurd hi (Nat.not_lt_zero i), below_drewM HB4.out _, ⟨by show b4 < W4.heap.size; rw [HS4.out]; omega, rfl⟩, fun e => by have := (HCPO.out.nm.lt b4 e).2; have := HLT4.out; omega, fun e => by have := (HCPO.out.got.1.lt b4 e).2; have := HLT4.out; omega⟩
          case round =>
            obtain ⟨u, N', f', rfl, hu, hcp, hsame, hnew, hbel, hb4k, hn4, hl4⟩ := hrel
            have HCP := Lib.hid hcp
            have HSAME := Lib.hid hsame
            have HNEW := Lib.hid hnew
            have HBI := Lib.hid hbel
            have HB4K := Lib.hid hb4k
            have HN4 := Lib.hid hn4
            have HL4 := Lib.hid hl4
            clear hcp hsame hnew hbel hb4k hn4 hl4
            have hon1 := HON.out
            by_cases hlt2 : u < pdn
            · have q5 : decide ((u : Int) < (pdn : Int)) = true := decide_eq_true (by omega)
              have q5n : decide (u < pdn) = true := decide_eq_true hlt2
              have q6 : IntKind.i64.wrap ((u : Int) + 1) = ((u + 1 : Nat) : Int) := wrap_succ hlt2 (by omega)
              obtain ⟨gx, ox, hix, hrg⟩ := HIXO.out u hlt2
              obtain ⟨k0, m0, s0, nm0, a0, n0, cap0, c0, hv0⟩ := HMK.out u hlt2
              have HR := Lib.hid (fun (W : World) (hW : Below w.heap.size w W) => HEO.out u hlt2 W hW)
              have hrx := hrg wr (HBW.out _ HBI.out)
              rw [hv0] at hrx HR
              rw [list5] at hrx HR
              have HRX := Lib.hid hrx
              clear hrx hrg hv0
              have hlt13 : b + 2 ≤ wr.heap.size := by have h := HBI.out.size; rw [HSZ.out] at h; exact h
              have HL13 := Lib.hid hlt13
              have HK0 := Lib.hid (show K3 (wr.alloc (.cells #[.int .i64 k0, .int .i64 m0, .string s0, .slice nm0.a nm0.n nm0.cap, .slice a0 n0 cap0] 26)) b b4 wr.heap.size (wr.alloc (.cells #[.int .i64 k0, .int .i64 m0, .string s0, .slice nm0.a nm0.n nm0.cap, .slice a0 n0 cap0] 26)) from ⟨⟨by rw [World.size_alloc]; omega, rfl⟩, ⟨by rw [World.size_alloc]; have := HB4K.out.1; omega, rfl⟩, ⟨by rw [World.size_alloc]; omega, rfl⟩⟩)
              have HX13 := Lib.hid ((HXA.out.below HBI.out (by omega)).alloc (.cells #[.int .i64 k0, .int .i64 m0, .string s0, .slice nm0.a nm0.n nm0.cap, .slice a0 n0 cap0] 26))
              have HP13 := Lib.hid (show Bx (wr.alloc (.cells #[.int .i64 k0, .int .i64 m0, .string s0, .slice nm0.a nm0.n nm0.cap, .slice a0 n0 cap0] 26)) b4 #[.string pn, .int .i64 (t : Nat), .bool po, .slice pda pdn pdc] 48 from Bx.alloc (HB4K.out.2.trans HP4.out) _)
              have HE13 := Lib.hid (Bx.new wr #[.int .i64 k0, .int .i64 m0, .string s0, .slice nm0.a nm0.n nm0.cap, .slice a0 n0 cap0] 26)
              have HB13 := Lib.hid (HBI.out.alloc hlt13 (.cells #[.int .i64 k0, .int .i64 m0, .string s0, .slice nm0.a nm0.n nm0.cap, .slice a0 n0 cap0] 26))
              have HC13 := Lib.hid (HCP.out.below ((Below.refl wr.heap.size wr).alloc (Nat.le_refl _) (.cells #[.int .i64 k0, .int .i64 m0, .string s0, .slice nm0.a nm0.n nm0.cap, .slice a0 n0 cap0] 26)))
              have HB4L := Lib.hid (show (wr.alloc (.cells #[.int .i64 k0, .int .i64 m0, .string s0, .slice nm0.a nm0.n nm0.cap, .slice a0 n0 cap0] 26)).heap[b4]? = W4.heap[b4]? from (Below.heap_alloc wr _ b4 HB4K.out.1).trans HB4K.out.2)
              go_upto_region 15 with (first
                | (refine wpList_load_mid rfl 26 (.tmp 51) rfl gx ox rfl [.int .i64 k0, .int .i64 m0, .string s0, .slice nm0.a nm0.n nm0.cap, .slice a0 n0 cap0] _ HRX.out Tryz.underlying26 rfl (by rw [info_V]; rfl) ?_)
                | (refine wpList_store_new rfl 26 (.tmp 13) (.tmp 52) rfl 5 _ [.int .i64 k0, .int .i64 m0, .string s0, .slice nm0.a nm0.n nm0.cap, .slice a0 n0 cap0] rfl (by rfl) info_V (by simp [Value.oneCell']) rfl rfl ?_))
              have HS13 := Lib.hid (show (wr.alloc (.cells #[.int .i64 k0, .int .i64 m0, .string s0, .slice nm0.a nm0.n nm0.cap, .slice a0 n0 cap0] 26)).heap.size = wr.heap.size + 1 from World.size_alloc ..)
              generalize wr.alloc (.cells #[.int .i64 k0, .int .i64 m0, .string s0, .slice nm0.a nm0.n nm0.cap, .slice a0 n0 cap0] 26) = W13 at *
              obtain ⟨b13, hb13⟩ : ∃ b13, wr.heap.size = b13 := ⟨_, rfl⟩
              have HB13E := Lib.hid hb13
              rw [hb13] at HE13 HS13 HK0 ⊢
              clear hb13
              dsimp only [Act.put]
              have HS := Lib.hid (show ∀ W, K3 W13 b b4 b13 W → (W.cell? ⟨b, 0, none⟩ = some (.pointer (some ⟨g, x, none⟩)) ∧ W.cell? ⟨b, 1, none⟩ = some (.slice (some ⟨g, o, none⟩) d.n d.cap) ∧ W.cell? ⟨b4, 0, none⟩ = some (.string pn) ∧ W.cell? ⟨b4, 1, none⟩ = some (.int .i64 (t : Nat)) ∧ W.cell? ⟨b4, 2, none⟩ = some (.bool po) ∧ W.cell? ⟨b4, 3, none⟩ = some (.slice pda pdn pdc) ∧ W.cell? ⟨b13, 0, none⟩ = some (.int .i64 k0) ∧ W.cell? ⟨b13, 1, none⟩ = some (.int .i64 m0) ∧ W.cell? ⟨b13, 2, none⟩ = some (.string s0) ∧ W.cell? ⟨b13, 3, none⟩ = some (.slice nm0.a nm0.n nm0.cap) ∧ W.cell? ⟨b13, 4, none⟩ = some (.slice a0 n0 cap0)) from fun W hW => by
                have h1 : Bx W b #[.pointer (some ⟨g, x, none⟩), .slice (some ⟨g, o, none⟩) d.n d.cap] 72 := hW.1.2.trans HX13.out
                have h2 : Bx W b4 #[.string pn, .int .i64 (t : Nat), .bool po, .slice pda pdn pdc] 48 := hW.2.1.2.trans HP13.out
                have h3 : Bx W b13 #[.int .i64 k0, .int .i64 m0, .string s0, .slice nm0.a nm0.n nm0.cap, .slice a0 n0 cap0] 26 := hW.2.2.2.trans HE13.out
                exact ⟨h1.cell 0 rfl, h1.cell 1 rfl, h2.cell 0 rfl, h2.cell 1 rfl, h2.cell 2 rfl, h2.cell 3 rfl, h3.cell 0 rfl, h3.cell 1 rfl, h3.cell 2 rfl, h3.cell 3 rfl, h3.cell 4 rfl⟩)
              have HOWN := Lib.hid (show ∀ q, (u6.ownBlock = some q ∨ u7.ownBlock = some q) → b + 2 ≤ q ∧ q < b13 ∧ q ≠ b4 from fun q hq => by
                rcases hq with e | e
                · have := HCP.out.nm.lt q e
                  exact ⟨this.1, by have := HB13E.out; omega, fun e2 => HN4.out (by rw [← e2]; exact e)⟩
                · have := HCP.out.got.1.lt q e
                  exact ⟨this.1, by have := HB13E.out; omega, fun e2 => HL4.out (by rw [← e2]; exact e)⟩)
              have HBD := Lib.hid (show Below W13.heap.size W13 W13.drew from Below.drew (Below.refl _ _))
              have HBA0 := Lib.hid ((Below.refl W13.heap.size W13).trans (HBD.out.alloc (Nat.le_refl _) (.cells #[.string pn] 9)))
              have HCA := Lib.hid (HC13.out.below HBA0.out)
              have HKA := Lib.hid (HK0.out.below HBA0.out)
              have HBA := Lib.hid (HB13.out.trans (HBA0.out.mono (by rw [HS13.out]; have := HB13E.out; have := HL13.out; omega)))
              have HSA := Lib.hid (HS.out _ HKA.out)
              have HS0 := Lib.hid (HS.out _ (HK0.out.below HBD.out))
              go_region_held3 (fun W => W.cell? ⟨b, 0, none⟩ = some (.pointer (some ⟨g, x, none⟩)) ∧ W.cell? ⟨b, 1, none⟩ = some (.slice (some ⟨g, o, none⟩) d.n d.cap) ∧ W.cell? ⟨b4, 0, none⟩ = some (.string pn) ∧ W.cell? ⟨b4, 1, none⟩ = some (.int .i64 (t : Nat)) ∧ W.cell? ⟨b4, 2, none⟩ = some (.bool po) ∧ W.cell? ⟨b4, 3, none⟩ = some (.slice pda pdn pdc) ∧ W.cell? ⟨b13, 0, none⟩ = some (.int .i64 k0) ∧ W.cell? ⟨b13, 1, none⟩ = some (.int .i64 m0) ∧ W.cell? ⟨b13, 2, none⟩ = some (.string s0) ∧ W.cell? ⟨b13, 3, none⟩ = some (.slice nm0.a nm0.n nm0.cap) ∧ W.cell? ⟨b13, 4, none⟩ = some (.slice a0 n0 cap0)) (first | with_reducible exact HS0.out | with_reducible exact HSA.out | with_reducible exact HS57.out | with_reducible exact HS61.out | with_reducible exact HS63.out | with_reducible exact HS64.out | with_reducible exact HS65.out | exact HSA.out | exact HS64.out) (first
                | (refine step_append_lies _ (by rfl) (.tmp 53) (.tmp 56) 23 (by rfl) (b + 2) 9 j0 (.string ⟨#[]⟩) 1 16 Tryz.underlying23 hj0 hy0 hy1 hy2 rfl (by decide) u6 (y + u) (strsV N' (y + u)) (by rfl) HCA.out.nm ⟨W13.heap.size, 0, none⟩ 1 1 [.string pn] (by rfl) (by rfl) (World.news_of_block (Bx.new W13.drew #[.string pn] 9)) (by simp [Value.oneCell']) (by decide) (by unfold maxLen; omega) (by omega) (by have h := HBA.out.size; rw [HSZ.out] at h; exact h) (W13.heap.size + 1) (World.size_alloc ..) ?_; intro g1 cap1 w57 ho hg hat hl57
                   have HC57 := Lib.hid (HCA.out.addName HPN.out ho hg (by rw [show (W13.drew.alloc (.cells #[.string pn] 9)).heap.size = W13.heap.size + 1 from World.size_alloc ..]; exact hat))
                   have HK57 := Lib.hid (HKA.out.grown hg ⟨fun e => by have := (HOWN.out _ (.inl e)).1; omega, fun e => (HOWN.out _ (.inl e)).2.2 rfl, fun e => by have := (HOWN.out _ (.inl e)).2.1; omega⟩)
                   have HB57 := Lib.hid (HBA.out.grown hg (by have h := HBA.out.size; rw [HSZ.out] at h; exact h) (fun q hq => (HOWN.out q (.inl hq)).1))
                   have HG1 := Lib.hid (show g1 ≠ b4 ∧ g1 < w57.heap.size from ⟨fun e => by
                     rcases hat with h1 | h1
                     · exact (HOWN.out g1 (.inl h1)).2.2 e
                     · have := HK0.out.2.1.1; omega, hl57⟩)
                   have HS57 := Lib.hid (HS.out _ HK57.out)
                   clear ho hg hat hl57)
                | (go_at_call 54; (with_reducible refine (HOFP.out _).mono ?_); rintro e w61 ⟨rfl, h61⟩
                   have HC61 := Lib.hid (HC57.out.below h61)
                   have HK61 := Lib.hid (HK57.out.below h61)
                   have HB61 := Lib.hid (HB57.out.trans (h61.mono (by have h := HB57.out.size; rw [HSZ.out] at h; exact h)))
                   have HG61 := Lib.hid (Nat.lt_of_lt_of_le HG1.out.2 h61.size)
                   have HS61 := Lib.hid (HS.out _ HK61.out)
                   clear h61)
                | (go_at_call 35; (with_reducible refine (HR.out _ (HBW.out _ HB61.out)).mono ?_); rintro e w63 ⟨v1, rfl, hvi, hvb, hfu, h63⟩; obtain ⟨k1, m1, s1, nm1, a1, n1, cap1', ch1, rfl⟩ := vin_mk hvi; rw [list5]
                   have HC63 := Lib.hid (HC61.out.below h63)
                   have HK63 := Lib.hid (HK61.out.below h63)
                   have HB63 := Lib.hid (HB61.out.trans (h63.mono (by have h := HB61.out.size; rw [HSZ.out] at h; exact h)))
                   have HS63 := Lib.hid (HS.out _ HK63.out)
                   have HA64 := Lib.hid ((Below.refl w63.heap.size w63).alloc (Nat.le_refl _) (.cells #[.int .i64 k1, .int .i64 m1, .string s1, .slice nm1.a nm1.n nm1.cap, .slice a1 n1 cap1'] 26))
                   have HC64 := Lib.hid (HC63.out.below HA64.out)
                   have HK64 := Lib.hid (HK63.out.below HA64.out)
                   have HB64 := Lib.hid (HB63.out.trans (HA64.out.mono (by have h := HB63.out.size; rw [HSZ.out] at h; exact h)))
                   have HS64 := Lib.hid (HS.out _ HK64.out)
                   have HV1 := Lib.hid ((hvi.below HA64.out (Nat.le_refl _)).below (Below.refl _ _) HA64.out.size)
                   have HVB := Lib.hid hvb
                   have HFU := Lib.hid hfu
                   have HL61 := Lib.hid (show b13 < w61.heap.size from HK61.out.2.2.1)
                   clear hvi hvb hfu h63)
                | (refine step_append_lies _ (by rfl) (.tmp 58) (.tmp 64) 24 (by rfl) (b + 2) 26 i0 zeroV 5 80 Tryz.underlying24 hi0 hz0 hz1 hz2 rfl (by decide) u7 (y + u) (flatV f' (y + u)) (by rfl) HC64.out.got.1 ⟨w63.heap.size, 0, none⟩ 1 1 [.int .i64 k1, .int .i64 m1, .string s1, .slice nm1.a nm1.n nm1.cap, .slice a1 n1 cap1'] (by rfl) (by rfl) (World.news_of_block (Bx.new w63 #[.int .i64 k1, .int .i64 m1, .string s1, .slice nm1.a nm1.n nm1.cap, .slice a1 n1 cap1'] 26)) (by simp [Value.oneCell']) (by decide) (by unfold maxLen; omega) (by omega) (by have h := HB64.out.size; rw [HSZ.out] at h; exact h) (w63.heap.size + 1) (World.size_alloc ..) ?_; intro g2 cap2 w65 ho hg hat hl65
                   have HC65 := Lib.hid (HC64.out.addVal (x := .mk k1 m1 s1 nm1 a1 n1 cap1' ch1) HV1.out (HVB.out.mono fun q hq => ⟨by have : w61.heap.size ≤ q := hq; have := HL61.out; have := HB13E.out; have := HL13.out; omega, fun e => by have : w61.heap.size ≤ q := hq; have := (HOWN.out q (.inr e.symm)).2.1; have := HL61.out; omega⟩) (HVB.out.mono fun q hq e => by have h1 : w61.heap.size ≤ q := hq; have h2 : q = g1 := (by simpa [Value.ownBlock] using e); have := HG61.out; omega) ho hg (by rw [show (w63.alloc (.cells #[.int .i64 k1, .int .i64 m1, .string s1, .slice nm1.a nm1.n nm1.cap, .slice a1 n1 cap1'] 26)).heap.size = w63.heap.size + 1 from World.size_alloc ..]; exact hat))
                   have HK65 := Lib.hid (HK64.out.grown hg ⟨fun e => by have := (HOWN.out _ (.inr e)).1; omega, fun e => (HOWN.out _ (.inr e)).2.2 rfl, fun e => by have := (HOWN.out _ (.inr e)).2.1; omega⟩)
                   have HB65 := Lib.hid (HB64.out.grown hg (by have h := HB64.out.size; rw [HSZ.out] at h; exact h) (fun q hq => (HOWN.out q (.inr hq)).1))
                   have HG2 := Lib.hid (show g2 ≠ b4 from fun e => by
                     rcases hat with h1 | h1
                     · exact (HOWN.out g2 (.inr h1)).2.2 e
                     · have := HK63.out.2.1.1; omega)
                   have HS65 := Lib.hid (HS.out _ HK65.out)
                   clear ho hg hat hl65))
              go_wp2_with fail
              go_roundw
              case rel => exact ⟨u + 1, _, _, rfl, hlt2, HC65.out, fun i hi => ⟨by rw [if_pos (by omega)]; exact (HSAME.out i hi).1, by rw [if_pos (by omega)]; exact (HSAME.out i hi).2⟩, fun i hi => by
                  by_cases h1 : i < u
                  · rw [if_pos (show y + i < y + u by omega), if_pos (show y + i < y + u by omega)]; exact HNEW.out i h1
                  · rw [if_neg (show ¬ y + i < y + u by omega), if_neg (show ¬ y + i < y + u by omega), show i = u by omega]; exact ⟨rfl, HFU.out⟩, HB65.out, ⟨HK65.out.2.1.1, HK65.out.2.1.2.trans HB4L.out⟩, fun e => HG1.out.1 (by simpa [Value.ownBlock] using e), fun e => HG2.out (by simpa [Value.ownBlock] using e)⟩
              case measure => simp only [Lib.intOf]; omega
            · have q5 : decide ((u : Int) < (pdn : Int)) = false := decide_eq_false (by omega)
              have q5n : decide (u < pdn) = false := decide_eq_false hlt2
              obtain rfl : u = pdn := by omega
              have HFIN := Lib.hid (HEND.out N' f' HSAME.out HNEW.out)
              go_wp2_with fail
              go_roundw
              case rel => exact ⟨c + 1, _, y + u, N', f', rfl, by first | rfl | simp, hlt, HX2.out, by omega, HCP.out, HFIN.out, HGO2.out, HBI.out⟩
              case measure => simp only [Lib.intOf]; omega
    · have q1 : decide ((c : Int) < (CN : Int)) = false := decide_eq_false (by omega)
      have q1n : decide (c < CN) = false := decide_eq_false hlt
      obtain rfl : c = CN := by omega
      have hzn : z = nm.n := by have := HGO.out.symm.trans HSEQ.out; simpa using this
      rw [hzn] at HSQ
      go_wp2_with fail
      go_ret2
      exact ⟨_, _, y, N, f, rfl, by omega, by rw [HBE.out]; exact HCPO.out, by rw [hCN]; exact HSQ.out, HBW.out _ HBL.out⟩
end Go.Proofs.YtjhecpkdpomkmaaGreat
