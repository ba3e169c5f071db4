/-
  A bundle of texts, one behind the other: McX.
-/
import Derived.Test.YtjhecpkdpomkmaaGreatRD
namespace Go.Proofs.YtjhecpkdpomkmaaGreat
open Go.RowKit
set_option linter.unusedVariables false
set_option linter.unusedSimpArgs false
set_option maxRecDepth 100000

/-- a name more in the box that is gathered -/
theorem cp_name2 {W4 wr w0 w8 : World} {A c : Nat} {k m : Int} {s pn : ByteArray} {nv lv : Value} {y g cap : Nat} {N : Nat → ByteArray} {f : Nat → VT} (hA : W4.heap.size = A) (hc : c < A)
    (hbx : Bx wr c #[.int .i64 k, .int .i64 m, .string s, nv, lv] 26) (hcp : CpS A wr nv y N lv y f) (hb3 : AtK c W4 wr) (hs : pn.size ≤ 140737488355328)
    (h7 : Below wr.heap.size wr w0) (hsz : w0.heap.size = wr.heap.size + 1)
    (ho : w8.ownsRow A 9 1 (.slice (some ⟨g, 0, none⟩) (y + 1) cap) (y + 1) (strsV N y ++ [.string pn]))
    (hg : w0.grownBy w8 nv.ownBlock) (hat : nv.ownBlock = some g ∨ g = wr.heap.size + 1) :
    Bx w8 c #[.int .i64 k, .int .i64 m, .string s, nv, lv] 26 ∧
    Bx (w8.setCell ⟨c, 3, none⟩ (.slice (some ⟨g, 0, none⟩) (y + 1) cap)) c #[.int .i64 k, .int .i64 m, .string s, .slice (some ⟨g, 0, none⟩) (y + 1) cap, lv] 26 ∧
    CpS A (w8.setCell ⟨c, 3, none⟩ (.slice (some ⟨g, 0, none⟩) (y + 1) cap)) (.slice (some ⟨g, 0, none⟩) (y + 1) cap) (y + 1) (fun i => if i < y then N i else pn) lv y f ∧
    AtK c W4 (w8.setCell ⟨c, 3, none⟩ (.slice (some ⟨g, 0, none⟩) (y + 1) cap)) := by
  have hlt := hcp.nm.lt
  have hbx7 := hbx.below h7 (by have := hb3.size; omega)
  have hbx8 : Bx w8 c #[.int .i64 k, .int .i64 m, .string s, nv, lv] 26 := (hg.block _ hbx7.lt (fun e => by have := (hlt c e.symm).1; omega)).trans hbx7
  have hcp8 := (hcp.below h7).addName hs ho hg (by rw [hsz]; exact hat)
  exact ⟨hbx8, bx_fieldM hbx8 3 _, hcp8.keepA (fun q hq => heap_fieldM (by omega)) (by simp), ((hb3.then h7).grown hg fun q e => by have := (hlt q e).1; omega).set⟩
theorem seqR_oneA {r : DT} {nm : SL} {N N' : Nat → ByteArray} {f f' : Nat → VT} {F G : Nat → Nat → VT → Prop} {c x y : Nat} (h : SeqR r nm ⟨none, y, 0, N⟩ (fun x y t => F x t (f y)) (fun k j y => G k j (f y)) c x y) (he : ∀ i, i < y → N' i = N i ∧ f' i = f i)
    (ht : x < nm.n ∧ sEq (nm.f x) (r.part c).name = true) (h1 : N' y = (r.part c).name) (h2 : F x (r.part c).t.toNat (f' y)) : SeqR r nm ⟨none, y + 1, 0, N'⟩ (fun x y t => F x t (f' y)) (fun k j y => G k j (f' y)) (c + 1) (x + 1) (y + 1) :=
  .inl ⟨x, y, seqR_congr h (fun i hi => (he i hi).1.symm) (fun x i t hi hf => by rw [(he i hi).2]; exact hf) (fun k j i hi hf => by rw [(he i hi).2]; exact hf), rfl, rfl, ht, h1, h2⟩
theorem seqR_defsA {r : DT} {nm : SL} {N N' : Nat → ByteArray} {f f' : Nat → VT} {F G : Nat → Nat → VT → Prop} {c x y : Nat} (h : SeqR r nm ⟨none, y, 0, N⟩ (fun x y t => F x t (f y)) (fun k j y => G k j (f y)) c x y) (he : ∀ i, i < y → N' i = N i ∧ f' i = f i)
    (ht : ¬ (x < nm.n ∧ sEq (nm.f x) (r.part c).name = true)) (h1 : ∀ i, i < (r.part c).d.n → N' (y + i) = (r.part c).name ∧ G c i (f' (y + i))) : SeqR r nm ⟨none, y + (r.part c).d.n, 0, N'⟩ (fun x y t => F x t (f' y)) (fun k j y => G k j (f' y)) (c + 1) x (y + (r.part c).d.n) :=
  .inr ⟨y, seqR_congr h (fun i hi => (he i hi).1.symm) (fun x i t hi hf => by rw [(he i hi).2]; exact hf) (fun k j i hi hf => by rw [(he i hi).2]; exact hf), rfl, ht, h1⟩
theorem rAt_def (B : Nat) (w : World) (d : TB) (i k t : Nat) (hd : TBIn B w d) (hB : B ≤ w.heap.size) (hg : d.good = true) (hi : i < d.n) (hk : k < (d.f i).count) (hj : 0 < ((d.f i).part k).d.n) (ht : ((d.f i).part k).t.toNat = t) (htn : t < d.n) (hv : VIn B w (((d.f i).part k).d.f 0)) :
    Calls Tryz.prog 37 #[.slice d.a d.n d.cap, .int .i64 (t : Nat), .agg (((d.f i).part k).d.f 0).cells.toArray] w (CompOut w (leafOf (((d.f i).part k).d.f 0))) := by
  obtain ⟨h1, h2⟩ := TB.good_def hg hi hk hj
  rw [ht] at h2
  have hkk := VT.has_kind h2
  have hne := isDfl_cases h1
  obtain ⟨k0, m0, s0, nm0, a0, n0, cap0, ch0, hv0⟩ := vin_mk hv
  rw [hv0] at hv hkk hne ⊢
  have hkd : (d.f t).kind = k0 := hkk.symm
  refine (rAt_leaf B w d t k0 m0 s0 nm0 a0 n0 cap0 ch0 hd hB htn (by rw [hkd]; exact hne.1) (by rw [hkd]; exact hne.2.1) (by rw [hkd]; exact hne.2.2)).mono fun e w' h => ?_
  exact ⟨leafV k0 m0 s0, h.1, leafV_in _ _ hv.1.1 hv.1.2.1 hv.1.2.2.1, leafV_blk _ _ _ _, ⟨noSL, none, 0, _, rfl, rfl⟩, h.2⟩
def RelA8 (W4 : World) (c A : Nat) (k m : Int) (s : ByteArray) (CN : Nat) (r : DT) (nm : SL) (h : Nat → Nat → Bool) (F G : Nat → Nat → VT → Prop) (iv : Value) (wr : World) : Prop :=
  ∃ (j z y : Nat) (N : Nat → ByteArray) (f : Nat → VT) (nv lv : Value), iv = .int .i64 (j : Nat) ∧ j ≤ CN ∧ z ≤ nm.n ∧ y ≤ j ∧ Bx wr c #[.int .i64 k, .int .i64 m, .string s, nv, lv] 26 ∧ CpS A wr nv y N lv y f ∧
    SeqR r nm ⟨none, y, 0, N⟩ (fun x y t => F x t (f y)) (fun k j y => G k j (f y)) j z y ∧ seqGo r nm h j = some z ∧ AtK c W4 wr
set_option maxHeartbeats 64000000 in
theorem rAt_8 (B : Nat) (w : World) (d : TB) (i : Nat) (k m : Int) (s : ByteArray) (nm : SL) (a : Option Addr) (n cap : Nat) (ch : Nat → VT) (hd : TBIn B w d) (hB : B ≤ w.heap.size) (hi : i < d.n) (hk : (d.f i).kind = 8) (hx : VIn B w (.mk k m s nm a n cap ch)) (hn : n = nm.n) (hg : d.good = true) (hseq : seqGo (d.f i) nm (fun j t => (ch j).has d t) (d.f i).count = some nm.n)
    (hrec : ∀ j, j < n → ∀ t, t < d.n → (ch j).has d t = true → ∀ W, Below w.heap.size w W → Calls Tryz.prog 37 #[.slice d.a d.n d.cap, .int .i64 (t : Nat), .agg (ch j).cells.toArray] W (CompOut W ((ch j).full d t))) :
    Calls Tryz.prog 37 #[.slice d.a d.n d.cap, .int .i64 (i : Nat), .agg (VT.mk k m s nm a n cap ch).cells.toArray] w (CompOut w ((VT.mk k m s nm a n cap ch).full d i)) := by
  obtain ⟨i0, hi0, hz0, hz1, hz2⟩ := info_Vz'
  obtain ⟨j0, hj0, hy0, hy1, hy2⟩ := (show ∃ i0, Tryz.prog.info? 9 = some i0 ∧ i0.zero = some (.string ⟨#[]⟩) ∧ i0.size = 1 ∧ i0.bytes = 16 from by
    have h : (Tryz.prog.info? 9).map (fun i => (i.zero, i.size, i.bytes)) = some (some (.string ⟨#[]⟩), 1, 16) := by kernel_rfl
    cases hi : Tryz.prog.info? 9 with
    | none => rw [hi] at h; cases h
    | some i0 =>
      rw [hi] at h
      simp only [Option.map_some, Option.some.injEq, Prod.mk.injEq] at h
      exact ⟨i0, rfl, h.1, h.2.1, h.2.2⟩)
  have hrow := TB.right_row (TB.good_right hg) hi
  have HFW := Lib.hid hrow.few
  have hcn : (d.f i).count ≤ 512 := by have := hrow.few; unfold DT.count; omega
  have HTN := Lib.hid (show ∀ k, k < (d.f i).count → ∃ t : Nat, ((d.f i).part k).t = (t : Int) ∧ ((d.f i).part k).t.toNat = t ∧ t < d.n ∧ ((d.f i).part k).d.n ≤ 1 from fun k hk => by
    have := FT.ok_t (hrow.part hk).2
    exact ⟨((d.f i).part k).t.toNat, by omega, rfl, this.2, FT.ok_d (hrow.part hk).2⟩)
  have HPI := Lib.hid (fun (W : World) (hW : Below w.heap.size w W) (k : Nat) (hk : k < (d.f i).count) => ((((hd.2 i hi).below (Below.refl w.heap.size w) hB).below hW (Nat.le_refl _)).part hk : FTIn w.heap.size W ((d.f i).part k)))
  have HDEF := Lib.hid (fun (W : World) (hb : Below w.heap.size w W) (k : Nat) (hk : k < (d.f i).count) (hj : 0 < ((d.f i).part k).d.n) (t : Nat) (ht : ((d.f i).part k).t.toNat = t) (htn : t < d.n) => rAt_def w.heap.size W d i k t ((hd.below (Below.refl _ _) hB).below hb (Nat.le_refl _)) hb.size hg hi hk hj ht htn ((HPI.out W hb k hk).2.2.2 0 hj))
  have HIT := Lib.hid (fun (k x : Nat) (hk : k < (d.f i).count) (hx : seqGo (d.f i) nm (fun j t => (ch j).has d t) k = some x) (hc : x < nm.n ∧ sEq (nm.f x) ((d.f i).part k).name = true) => idx_take (K := 0) hrow hk hx hc)
  have HIS := Lib.hid (fun (k x : Nat) (hk : k < (d.f i).count) (hx : seqGo (d.f i) nm (fun j t => (ch j).has d t) k = some x) (hc : ¬ (x < nm.n ∧ sEq (nm.f x) ((d.f i).part k).name = true)) => idx_skip hrow hk hx hseq hc)
  have HREC := Lib.hid hrec
  have HVX := Lib.hid hx.1
  have HBB := Lib.hid hB
  have HIX := Lib.hid (fun (j : Nat) (hj : j < n) => vRow_range hx.2.1 hj)
  have HVI := Lib.hid (fun (j : Nat) (hj : j < n) => vin_mk (hx.2.2 j hj))
  have HNMS := Lib.hid (show nm.n ≤ 140737488355328 from hx.1.2.2.2.1.2.1)
  have HHS := Lib.hid (fun (W : World) (hW : Below w.heap.size w W) (p : ByteArray) => rhas_ok w.heap.size W nm p (((hx.1.2.2.2 : SLIn B w nm).below (Below.refl _ _) hB).below hW (Nat.le_refl _)))
  have HFULL := Lib.hid (show ∀ a1 y c1 N a2 c2 f, SeqR (d.f i) nm ⟨none, y, 0, N⟩ (fun x y t => (ch x).full d t (f y)) (fun k j y => leafOf (((d.f i).part k).d.f j) (f y)) (d.f i).count nm.n y → (VT.mk k m s nm a n cap ch).full d i (.mk k m s ⟨a1, y, c1, N⟩ a2 y c2 f) from fun a1 y c1 N a2 c2 f h => ⟨⟨a1, y, c1, N⟩, a2, y, c2, f, rfl, by
    rw [if_neg (by rw [hk]; decide), if_neg (by rw [hk]; decide), if_pos hk]
    exact ⟨rfl, seqR_congr h (fun _ _ => rfl) (fun _ _ _ _ h => h) (fun _ _ _ _ h => h)⟩⟩)
  have HRD0 := Lib.hid (fun (W : World) (hW : Below w.heap.size w W) => ((hd.2 i hi).below (Below.refl _ _) hB).below hW (Nat.le_refl _))
  obtain ⟨h, hh⟩ : ∃ h, (fun j x => (ch j).has d x) = h := ⟨_, rfl⟩
  have HH := Lib.hid (show ∀ j x, (ch j).has d x = h j x from fun j x => by rw [← hh])
  rw [hh] at hseq HIT HIS
  have HSEQ := Lib.hid hseq
  subst hn
  obtain ⟨FF, hFF⟩ : ∃ FF : Nat → Nat → VT → Prop, (fun x t v => (ch x).full d t v) = FF := ⟨_, rfl⟩
  have HFF := Lib.hid (show ∀ x t v, (ch x).full d t v = FF x t v from fun x t v => by rw [← hFF])
  obtain ⟨GG, hGG⟩ : ∃ GG : Nat → Nat → VT → Prop, (fun k j v => leafOf (((d.f i).part k).d.f j) v) = GG := ⟨_, rfl⟩
  have HGG := Lib.hid (show ∀ k j v, leafOf (((d.f i).part k).d.f j) v = GG k j v from fun k j v => by rw [← hGG])
  have HFUL := Lib.hid (show ∀ a1 y c1 N a2 c2 f, SeqR (d.f i) nm ⟨none, y, 0, N⟩ (fun x y t => FF x t (f y)) (fun k j y => GG k j (f y)) (d.f i).count nm.n y → (VT.mk k m s nm a nm.n cap ch).full d i (.mk k m s ⟨a1, y, c1, N⟩ a2 y c2 f) from fun a1 y c1 N a2 c2 f h => HFULL.out a1 y c1 N a2 c2 f (by rw [← hFF, ← hGG] at h; exact h))
  clear hFF hGG hrec hh hrow hseq HFULL
  generalize (VT.mk k m s nm a nm.n cap ch).full d i = FU at *
  clear hx hg

  have HDI := Lib.hid ((hd.2 i hi).below (Below.refl w.heap.size w) hB)
  obtain ⟨gx, ox, hix, hgx, hrd⟩ := hd.1.read 22 46 Tryz.underlying22 (by kernel_rfl) Tryz.sizeOf46 hi
  obtain ⟨r, hr⟩ : ∃ r, d.f i = r := ⟨_, rfl⟩
  have HRE := Lib.hid hr
  have HO := Lib.hid (one_dcells15A r)
  have hb1 := ((Below.refl w.heap.size w).alloc (Nat.le_refl _) (.cells #[.int .i64 k, .int .i64 m, .string s, .slice nm.a nm.n nm.cap, .slice a nm.n cap] 26)).alloc (by simp) (.cells #[.int .i64 0, .int .i64 0, .string ⟨#[]⟩, .slice none 0 0, .slice none 0 0] 26)
  have HX5 := Lib.hid ((Bx.new w #[.int .i64 k, .int .i64 m, .string s, .slice nm.a nm.n nm.cap, .slice a nm.n cap] 26).alloc (.cells #[.int .i64 0, .int .i64 0, .string ⟨#[]⟩, .slice none 0 0, .slice none 0 0] 26))
  have HX6 := Lib.hid (show Bx ((w.alloc (.cells #[.int .i64 k, .int .i64 m, .string s, .slice nm.a nm.n nm.cap, .slice a nm.n cap] 26)).alloc (.cells #[.int .i64 0, .int .i64 0, .string ⟨#[]⟩, .slice none 0 0, .slice none 0 0] 26)) (w.heap.size + 1) #[.int .i64 0, .int .i64 0, .string ⟨#[]⟩, .slice none 0 0, .slice none 0 0] 26 from by have h := Bx.new (w.alloc (.cells #[.int .i64 k, .int .i64 m, .string s, .slice nm.a nm.n nm.cap, .slice a nm.n cap] 26)) #[.int .i64 0, .int .i64 0, .string ⟨#[]⟩, .slice none 0 0, .slice none 0 0] 26; rwa [World.size_alloc] at h)
  have HS1 := Lib.hid (show ((w.alloc (.cells #[.int .i64 k, .int .i64 m, .string s, .slice nm.a nm.n nm.cap, .slice a nm.n cap] 26)).alloc (.cells #[.int .i64 0, .int .i64 0, .string ⟨#[]⟩, .slice none 0 0, .slice none 0 0] 26)).heap.size = w.heap.size + 1 + 1 from by simp only [World.size_alloc])
  have hra : ((w.alloc (.cells #[.int .i64 k, .int .i64 m, .string s, .slice nm.a nm.n nm.cap, .slice a nm.n cap] 26)).alloc (.cells #[.int .i64 0, .int .i64 0, .string ⟨#[]⟩, .slice none 0 0, .slice none 0 0] 26)).rangeAt gx ox r.cells := fun j u hj => hrd _ (hb1.block gx (by omega)) j u (by rw [hr]; exact hj)
  have HRA := Lib.hid hra
  have HB1 := Lib.hid hb1
  clear hrd hgx hra hb1
  rw [list5]
  go_enter Tryz.func37, Tryz.ntmps37
  go_upto_region 1 with fail
  generalize (w.alloc (.cells #[.int .i64 k, .int .i64 m, .string s, .slice nm.a nm.n nm.cap, .slice a nm.n cap] 26)).alloc (.cells #[.int .i64 0, .int .i64 0, .string ⟨#[]⟩, .slice none 0 0, .slice none 0 0] 26) = W1 at *
  obtain ⟨b, hb⟩ : ∃ b, w.heap.size = b := ⟨_, rfl⟩
  have HBE := Lib.hid hb
  rw [hb] at HX5 HX6 HS1 ⊢
  clear hb
  go_upto_region 2 with (first | (refine wpList_load_mid rfl 46 (.tmp 17) rfl gx ox rfl r.cells _ HRA.out Tryz.underlying46 rfl (by rw [info_D12A, HO.out.1]) ?_) | (refine wpList_store_new rfl 46 (.tmp 7) (.tmp 18) rfl 12 _ r.cells HO.out.1 (by rfl) info_D12A HO.out.2 rfl rfl ?_))
  (try dsimp only [Act.put])
  have HY7 := Lib.hid (show Bx (W1.alloc (.cells r.cells.toArray 46)) (b + 1 + 1) r.cells.toArray 46 from by have h := Bx.new W1 r.cells.toArray 46; rwa [HS1.out] at h)
  have HY5 := Lib.hid (HX5.out.alloc (.cells r.cells.toArray 46))
  have HY6 := Lib.hid (HX6.out.alloc (.cells r.cells.toArray 46))
  have HS2 := Lib.hid (show (W1.alloc (.cells r.cells.toArray 46)).heap.size = b + 1 + 1 + 1 from by rw [World.size_alloc, HS1.out])
  have HB2 := Lib.hid (HB1.out.alloc HB1.out.size (.cells r.cells.toArray 46))
  have hs1 := HS1.out
  rw [hs1]
  generalize W1.alloc (.cells r.cells.toArray 46) = W2 at *
  clear hs1 HX5 HX6 HS1 HB1 HRA
  have c0 := HY5.out.cell 0 (v := .int .i64 k) rfl
  have c1 := HY5.out.cell 1 (v := .int .i64 m) rfl
  have c2 := HY5.out.cell 2 (v := .string s) rfl
  go_upto_region 3 with (refine wpList_store_new rfl 26 (.tmp 8) (.tmp 25) rfl 5 _ [.int .i64 k, .int .i64 m, .string s, .slice none 0 0, .slice none 0 0] rfl (by rfl) info_V (by simp [Value.oneCell']) rfl rfl ?_)
  (try dsimp only [Act.put])
  have HZ8 := Lib.hid (show Bx (W2.alloc (.cells #[.int .i64 k, .int .i64 m, .string s, .slice none 0 0, .slice none 0 0] 26)) (b + 1 + 1 + 1) #[.int .i64 k, .int .i64 m, .string s, .slice none 0 0, .slice none 0 0] 26 from by have h := Bx.new W2 #[.int .i64 k, .int .i64 m, .string s, .slice none 0 0, .slice none 0 0] 26; rwa [HS2.out] at h)
  have HZ7 := Lib.hid (HY7.out.alloc (.cells #[.int .i64 k, .int .i64 m, .string s, .slice none 0 0, .slice none 0 0] 26))
  have HZ6 := Lib.hid (HY6.out.alloc (.cells #[.int .i64 k, .int .i64 m, .string s, .slice none 0 0, .slice none 0 0] 26))
  have HZ5 := Lib.hid (HY5.out.alloc (.cells #[.int .i64 k, .int .i64 m, .string s, .slice none 0 0, .slice none 0 0] 26))
  have HS3 := Lib.hid (show (W2.alloc (.cells #[.int .i64 k, .int .i64 m, .string s, .slice none 0 0, .slice none 0 0] 26)).heap.size = b + 4 from by rw [World.size_alloc, HS2.out])
  have HB3 := Lib.hid (HB2.out.alloc HB2.out.size (.cells #[.int .i64 k, .int .i64 m, .string s, .slice none 0 0, .slice none 0 0] 26))
  have hs2 := HS2.out
  rw [hs2]
  generalize W2.alloc (.cells #[.int .i64 k, .int .i64 m, .string s, .slice none 0 0, .slice none 0 0] 26) = W3 at *
  clear hs2 HY5 HY6 HY7 HS2 HB2 c0 c1 c2
  have e8 : (r.kind == 8) = true := beq_iff_eq.2 (by rw [HRE.out.symm]; exact hk)
  have e9 : (r.kind == 9) = false := beq_eq_false_iff_ne.2 (by rw [HRE.out.symm]; omega)
  have e10 : (r.kind == 10) = false := beq_eq_false_iff_ne.2 (by rw [HRE.out.symm]; omega)
  have c27 := HZ7.out.cell 0 (v := .int .i64 r.kind) rfl

  rw [hr] at HFW HTN HPI HDEF HIT HIS HSEQ HFUL HRD0 HGG hcn
  have HRD := Lib.hid HRD0.out
  have HCN := Lib.hid hcn
  generalize r.kind = K at *
  clear hr hd hB hi hk HRD0 hcn

  have HFI := Lib.hid (Fields_ok w.heap.size W3 r (HRD.out W3 HB3.out) HB3.out.size (by have := HFW.out.1; omega) (by have := HFW.out.2; omega))
  have HRG := Lib.hid (show W3.rangeAt (b + 1 + 1) 0 r.cells from HZ7.out.range)
  go_upto_region 5 with fail
  go_wp2_with (refine wpList_load_mid rfl 46 (.tmp 7) rfl (b + 1 + 1) 0 rfl r.cells _ HRG.out Tryz.underlying46 rfl (by rw [info_D12A, HO.out.1]) ?_)
  refine HFI.out.mono ?_
  rintro e W4 ⟨av, rfl, ⟨aa, ca, rfl, hca, hrow⟩, h4⟩
  have HR4 := Lib.hid (show Below (b + 4) W3 W4 from by rw [HS3.out] at h4; exact h4)
  have HROW := Lib.hid hrow
  have HB4 := Lib.hid (show Below w.heap.size w W4 from HB3.out.trans (h4.mono HB3.out.size))
  obtain ⟨A, hA⟩ : ∃ x, W4.heap.size = x := ⟨_, rfl⟩
  have HAE := Lib.hid hA
  have HAB := Lib.hid (show b + 4 ≤ A from by have h1 := HS3.out; have h2 := h4.size; omega)
  obtain ⟨c, hc⟩ : ∃ x, b + 1 + 1 + 1 = x := ⟨_, rfl⟩
  have HCE := Lib.hid hc
  have HX5 := Lib.hid (HZ5.out.below h4 (by have := HS3.out; omega))
  have HX6 := Lib.hid (HZ6.out.below h4 (by have := HS3.out; omega))
  have HX8 := Lib.hid (HZ8.out.below h4 (by have := HS3.out; omega))
  rw [hc] at HX8 ⊢
  clear h4 hrow c27 hA hc
  obtain ⟨CN, hN⟩ : ∃ x, r.count = x := ⟨_, rfl⟩
  have HNE := Lib.hid hN
  rw [hN] at HROW ⊢
  clear hN
  go_wp2_with fail

  rw [HNE.out] at HTN HPI HDEF HIT HIS HSEQ HFUL HCN
  go_loopw [10] (fun iv wr => RelA8 W4 c A k m s CN r nm h FF GG iv wr) (fun iv _ => CN - (Lib.intOf iv).toNat)
  case atStart => exact ⟨0, 0, 0, fun _ => ⟨#[]⟩, fun _ => .nil, .slice none 0 0, .slice none 0 0, rfl, Nat.zero_le _, Nat.zero_le _, Nat.le_refl _, HX8.out, CpS.nil _ _ _ _, ⟨rfl, rfl⟩, rfl, AtK.refl _ _⟩
  case round =>
    obtain ⟨j, z, y, N, f, nv, lv, rfl, hj, hz, hy, hbx, hcp, hsq, hgo, hak⟩ := hrel
    have HSQ := Lib.hid hsq
    have HGO := Lib.hid hgo
    have HZN := Lib.hid hz
    have HYJ := Lib.hid hy
    clear hsq hgo hz hy

    have HBX := Lib.hid hbx
    have HCP := Lib.hid hcp
    have HAK := Lib.hid hak
    clear hbx hcp hak
    have HS4 := Lib.hid (show A ≤ wr.heap.size from by have h1 := HAK.out.size; have h2 := HAE.out; omega)
    have HCA := Lib.hid (show c < A from by have h1 := HCE.out; have h2 := HAB.out; omega)
    have HBWR := Lib.hid (show Below w.heap.size w wr from HB4.out.trans (HAK.out.below (by have h1 := HCE.out; have h2 := HBE.out; omega) (by have h1 := HAE.out; have h2 := HAB.out; have h3 := HBE.out; omega)))

    by_cases hlt : j < CN
    · have hcn5 := HCN.out
      have hyj := HYJ.out
      have q1 : decide ((j : Int) < (CN : Int)) = true := decide_eq_true (by omega)
      have q1n : decide (j < CN) = true := decide_eq_true hlt
      have q3 : IntKind.i64.wrap ((j : Int) + 1) = ((j + 1 : Nat) : Int) := wrap_succ hlt (by omega)

      obtain ⟨gy, oy, hiy, hgb, hgy, hry⟩ := HROW.out j hlt
      have HCY := Lib.hid (show ∀ W, Below wr.heap.size wr W → ∀ q u, (r.part j).cells[q]? = some u → W.cell? ⟨gy, oy + q, none⟩ = some u from fun W hb q u hu => (World.cell?_of_block (w := W4) (a := ⟨gy, oy + q, none⟩) ((hb.block gy (by have h1 := HS4.out; have h2 := HAE.out; omega)).trans (HAK.out.block gy hgy (by have h1 := HCE.out; have h2 := HS3.out; omega)))).trans (hry q u hu))
      have HCK := Lib.hid (show ∀ W, AtK c W4 W → ∀ q u, (r.part j).cells[q]? = some u → W.cell? ⟨gy, oy + q, none⟩ = some u from fun W ha q u hu => (World.cell?_of_block (w := W4) (a := ⟨gy, oy + q, none⟩) (ha.block gy (by have h2 := HAE.out; omega) (by have h1 := HCE.out; have h2 := HS3.out; omega))).trans (hry q u hu))
      clear hgb hgy hry

      obtain ⟨t, ht, htj, htn, hdn1⟩ := HTN.out j hlt
      obtain ⟨x2, hgo2, hx2⟩ := seq_some (k := j + 1) (K := CN) hlt HSEQ.out
      obtain ⟨z', hz', hcase⟩ := seq_step hgo2
      rw [HGO.out] at hz'
      cases hz'
      have HX2 := Lib.hid hx2
      have HGO2 := Lib.hid hgo2
      have HIT1 := Lib.hid (HIT.out j z hlt HGO.out)
      have HIS1 := Lib.hid (HIS.out j z hlt HGO.out)
      have HPNS := Lib.hid (HPI.out wr HBWR.out j hlt).1
      have HDLI := Lib.hid (fun (W : World) (hW : Below w.heap.size w W) => ((HPI.out W hW j hlt).2.2 : DLIn w.heap.size W (r.part j).d))
      have HDEFC := Lib.hid (fun (W : World) (hb : Below w.heap.size w W) (hj : 0 < (r.part j).d.n) => HDEF.out W hb j hlt hj t htj htn)
      have HQ1 := Lib.hid (fun (N' : Nat → ByteArray) (f' : Nat → VT) he ht h1 h2 => seqR_oneA (N' := N') (f' := f') HSQ.out he ht h1 h2)
      have HQD := Lib.hid (fun (N' : Nat → ByteArray) (f' : Nat → VT) he ht h1 => seqR_defsA (N' := N') (f' := f') HSQ.out he ht h1)
      have HGJ := Lib.hid (fun (u : Nat) (v : VT) => HGG.out j u v)
      have HCY2 := Lib.hid (show ∀ W, Below wr.heap.size wr W → W.cell? ⟨gy, oy, none⟩ = some (.string (r.part j).name) ∧ W.cell? ⟨gy, oy + 1, none⟩ = some (.int .i64 (t : Nat)) ∧ W.cell? ⟨gy, oy + 3, none⟩ = some (.slice (r.part j).d.a (r.part j).d.n (r.part j).d.cap) from fun W hb => by
        have h0 := HCY.out W hb 0 (.string (r.part j).name) rfl
        rw [Nat.add_zero] at h0
        have h1 := HCY.out W hb 1 (.int .i64 (r.part j).t) rfl
        rw [ht] at h1
        exact ⟨h0, h1, HCY.out W hb 3 _ rfl⟩)
      have HTYN := Lib.hid (show ∀ W, AtK c W4 W → W.cell? ⟨gy, oy + 1, none⟩ = some (.int .i64 (t : Nat)) from fun W ha => by
        have h1 := HCK.out W ha 1 (.int .i64 (r.part j).t) rfl
        rwa [ht] at h1)
      have HTYD := Lib.hid (show ∀ W, AtK c W4 W → W.cell? ⟨gy, oy + 3, none⟩ = some (.slice (r.part j).d.a (r.part j).d.n (r.part j).d.cap) from fun W ha => HCK.out W ha 3 _ rfl)
      clear HCK
      rw [htj] at hcase HQ1
      have HCASE := Lib.hid hcase
      have HTN2 := Lib.hid htn
      have HDN1 := Lib.hid hdn1
      generalize (r.part j).name = pn at *
      generalize (r.part j).d = dl at *
      clear hcase hgo2 hx2 ht htj htn hdn1 HIT HIS HPI HDEF HTN HCY
      obtain ⟨ix, hix0⟩ : ∃ x, rIdx nm pn = x := ⟨_, rfl⟩
      have HHJ := Lib.hid (show ∀ q, Calls Tryz.prog 59 #[.slice nm.a nm.n nm.cap, .string pn] (wr.drewN q) fun e w' => e = .returned (.int .i64 ix) ∧ w' = wr.drewN q from fun q => by
        rw [← hix0]
        exact (HHS.out (wr.drewN q) (HBWR.out.trans ((drewN_below wr q).mono HBWR.out.size)) pn).mono fun e w' h => ⟨h.1, h.2.symm⟩)
      rw [hix0] at HIT1 HIS1
      clear hix0
      have hx5 := HX5.out.below (HAK.out.below (B := b + 1) (by have := HCE.out; omega) (by have h1 := HAE.out; have h2 := HAB.out; omega)) (by omega)
      have HX5R := Lib.hid hx5
      have e3 : wr.cell? ⟨b, 3, none⟩ = some (.slice nm.a nm.n nm.cap) := hx5.cell 3 rfl
      obtain ⟨f0, _, _⟩ := HCY2.out wr (Below.refl _ _)
      clear hx5
      go_upto_region 9 with fail
      go_quiet (exact Calls.quiet_of_same (HHJ.out _))
      go_upto_region 10 with fail
      have HBQ := Lib.hid (drewN_below wr nq)
      generalize wr.drewN nq = wq at *
      clear f0 e3 HHJ
      have HBXQ := Lib.hid (HBX.out.below HBQ.out HBX.out.lt)
      have HCPQ := Lib.hid (HCP.out.below HBQ.out)
      have HAKQ := Lib.hid (HAK.out.then HBQ.out)
      have HS5 := Lib.hid (show A ≤ wq.heap.size from by have h1 := HAKQ.out.size; have h2 := HAE.out; omega)
      have HBWQ := Lib.hid (HBWR.out.trans (HBQ.out.mono HBWR.out.size))
      have HNM := Lib.hid (show ∀ W, Below wq.heap.size wq W → W.cell? ⟨gy, oy, none⟩ = some (.string pn) from fun W hW => (HCY2.out W (HBQ.out.trans (hW.mono HBQ.out.size))).1)
      by_cases hm : z < nm.n ∧ sEq (nm.f z) pn = true
      · have hiz := HIT1.out hm
        obtain rfl : ix = (z : Nat) := hiz
        obtain ⟨hhz, hez⟩ : h z t = true ∧ x2 = z + 1 := by
          rcases HCASE.out with ⟨_, h1, h2⟩ | ⟨h1, _⟩
          · exact ⟨h1, h2⟩
          · exact absurd hm h1
        subst hez
        have HM := Lib.hid hm
        have u0 : decide ((0 : Int) ≤ (z : Int)) = true := decide_eq_true (by omega)
        obtain ⟨gv, ov, hiv, hgv, hrv⟩ := HIX.out z hm.1
        obtain ⟨k0, m0, s0, nm0, a0, n0, cap0, c0, hv0⟩ := HVI.out z hm.1
        have HR := Lib.hid (fun (W : World) (hW : Below w.heap.size w W) => HREC.out z hm.1 t HTN2.out (by rw [HH.out]; exact hhz) W hW)
        obtain ⟨PF, hPF⟩ : ∃ PF : VT → Prop, (ch z).full d t = PF := ⟨_, rfl⟩
        have HPFE := Lib.hid (show ∀ v, PF v → FF z t v from fun v h => by rw [← HFF.out, hPF]; exact h)
        rw [hPF] at HR
        rw [hv0] at hrv HR
        rw [list5] at hrv HR
        have HRX := Lib.hid (show ∀ W, Below w.heap.size w W → W.rangeAt gv ov [.int .i64 k0, .int .i64 m0, .string s0, .slice nm0.a nm0.n nm0.cap, .slice a0 n0 cap0] from fun W hW => hrv W (hW.block gv (by have := HBB.out; omega)))
        clear hrv hgv hv0 hPF hm hhz
        go_upto_region 11 with fail
        go_cut [57] from 48 to 57 (fun _ wx => StN A c k m s W4 y N pn lv f wx)
        case first =>
          have HCLN := Lib.hid (show ∀ W, Below wq.heap.size wq W → W.cell? ⟨c, 3, none⟩ = some nv from fun W hW => (HBXQ.out.below hW HBXQ.out.lt).cell 3 rfl)
          have HBX0 := Lib.hid (Below.drew (Below.refl wq.heap.size wq))
          have HBA := Lib.hid (show Below wq.heap.size wq (wq.alloc (.cells #[.string pn] 9)).drew from Below.drew ((Below.refl wq.heap.size wq).alloc (Nat.le_refl _) (.cells #[.string pn] 9)))
          have HSA := Lib.hid (show (wq.alloc (.cells #[.string pn] 9)).drew.heap.size = wq.heap.size + 1 from World.size_alloc ..)
          have l0 := HCLN.out _ HBX0.out
          have l1 := HCLN.out _ HBA.out
          have g0 := HNM.out _ HBX0.out
          have g1 := HNM.out _ HBA.out
          go_region_law (refine step_append_lies _ (by rfl) (.tmp 49) (.tmp 55) 23 (by rfl) A 9 j0 (.string ⟨#[]⟩) 1 16 Tryz.underlying23 hj0 hy0 hy1 hy2 rfl (by decide) nv y (strsV N y) (by rfl) (HCPQ.out.below HBA.out).nm ⟨wq.heap.size, 0, none⟩ 1 1 [.string pn] (by rfl) (by rfl) (World.news_of_block (Bx.new wq #[.string pn] 9)) (by simp [Value.oneCell']) (by decide) (by unfold maxLen; omega) (by omega) (by rw [HSA.out]; have := HS5.out; omega) (wq.heap.size + 1) HSA.out ?_; intro gn capn w8 ho hg hat hlt8; have HST := Lib.hid (cp_name2 HAE.out HCA.out HBXQ.out HCPQ.out HAKQ.out HPNS.out HBA.out HSA.out ho hg hat); have o4 := HST.out.1.cell 3 (v := nv) rfl; have o5 := frozenM HST.out.1 3; clear ho hg hat hlt8)
          all_goals (
            clear o4 o5 l0 l1 g0 g1
            go_wp2_with fail
            go_meet
            exact ⟨_, _, HST.out.2.1, HST.out.2.2.1, HST.out.2.2.2⟩)
        rename World => wn
        obtain ⟨gN, cN, hbx, hcp, hak⟩ := hcut
        have HBXN := Lib.hid hbx
        have HCPN := Lib.hid hcp
        have HAKN := Lib.hid hak
        clear hbx hcp hak HBXQ HCPQ HAKQ
        have HS6 := Lib.hid (show A ≤ wn.heap.size from by have h1 := HAKN.out.size; have h2 := HAE.out; omega)
        have HBWN := Lib.hid (show Below w.heap.size w wn from HB4.out.trans (HAKN.out.below (by have h1 := HCE.out; have h2 := HBE.out; omega) (by have h1 := HAE.out; have h2 := HAB.out; have h3 := HBE.out; omega)))
        obtain ⟨nw, hnw⟩ : ∃ x : Value, Value.slice (some ⟨gN, 0, none⟩) (y + 1) cN = x := ⟨_, rfl⟩
        obtain ⟨N2, hN2⟩ : ∃ x : Nat → ByteArray, (fun i => if i < y then N i else pn) = x := ⟨_, rfl⟩
        have HN2 := Lib.hid (show ∀ i, N2 i = if i < y then N i else pn from fun i => by rw [← hN2])
        rw [hnw] at HBXN HCPN
        rw [hN2] at HCPN
        clear hnw hN2
        go_upto_region 12 with fail
        have HBZ := Lib.hid (show ∀ W, Below wn.heap.size wn W → Below w.heap.size w W from fun W hW => HBWN.out.trans (hW.mono HBWN.out.size))
        have HFJ := Lib.hid (show ∀ y, PF y → PF y from fun y h => h)
        have HCL := Lib.hid (show ∀ W, Below wn.heap.size wn W → W.cell? ⟨c, 4, none⟩ = some lv from fun W hW => (HBXN.out.below hW HBXN.out.lt).cell 4 rfl)
        have HBX0 := Lib.hid (Below.drew (Below.refl wn.heap.size wn))
        have l0 := HCL.out _ HBX0.out

        have hbn : Below w.heap.size w wn.drew := HBZ.out _ HBX0.out
        have hak4 := HAKN.out.then HBX0.out
        have y1 : wn.drew.cell? ⟨gy, oy + 1, none⟩ = some (.int .i64 (t : Nat)) := HTYN.out _ hak4
        have y4 : wn.drew.cell? ⟨b, 4, none⟩ = some (.slice a nm.n cap) := (HX5.out.below (hak4.below (B := b + 1) (by have := HCE.out; omega) (by have h1 := HAE.out; have h2 := HAB.out; omega)) (by omega)).cell 4 rfl
        have x0 : wn.drew.cell? ⟨gv, ov, none⟩ = some (.int .i64 k0) := by have h := HRX.out _ hbn 0 _ rfl; rwa [Nat.add_zero] at h
        have x1 : wn.drew.cell? ⟨gv, ov + 1, none⟩ = some (.int .i64 m0) := HRX.out _ hbn 1 _ rfl
        have x2 : wn.drew.cell? ⟨gv, ov + 2, none⟩ = some (.string s0) := HRX.out _ hbn 2 _ rfl
        have x3 : wn.drew.cell? ⟨gv, ov + 3, none⟩ = some (.slice nm0.a nm0.n nm0.cap) := HRX.out _ hbn 3 _ rfl
        have x4 : wn.drew.cell? ⟨gv, ov + 4, none⟩ = some (.slice a0 n0 cap0) := HRX.out _ hbn 4 _ rfl
        clear hbn hak4

        go_region_law (first
          | (go_simp; go_at_call 37; (refine (HR.out _ (HBZ.out _ HBX0.out)).mono ?_); rintro e w6 ⟨v1, rfl, hvi, hvb, hfu, h6⟩; obtain ⟨k1, m1, s1, nm1, a1, n1, cap1, ch1, rfl⟩ := vin_mk hvi; rw [list5]; have HBX2 := Lib.hid (HBX0.out.trans (h6.mono HBX0.out.size)); have HV1 := Lib.hid hvi; have HVB := Lib.hid hvb; have HFU := Lib.hid (HFJ.out _ hfu); clear h6 hvi hvb hfu; have l2 := HCL.out _ HBX2.out; have HBX3 := Lib.hid (HBX2.out.alloc HBX2.out.size (.cells #[.int .i64 k1, .int .i64 m1, .string s1, .slice nm1.a nm1.n nm1.cap, .slice a1 n1 cap1] 26)); have l3 := HCL.out _ HBX3.out)
          | (refine step_append_lies _ (by rfl) (.tmp 59) (.tmp 72) 24 (by rfl) A 26 i0 zeroV 5 80 Tryz.underlying24 hi0 hz0 hz1 hz2 rfl (by decide) lv y (flatV f y) (by rfl) (HCPN.out.below HBX3.out).got.1 ⟨w6.heap.size, 0, none⟩ 1 1 [.int .i64 k1, .int .i64 m1, .string s1, .slice nm1.a nm1.n nm1.cap, .slice a1 n1 cap1] (by rfl) (by rfl) (World.news_of_block (Bx.new w6 #[.int .i64 k1, .int .i64 m1, .string s1, .slice nm1.a nm1.n nm1.cap, .slice a1 n1 cap1] 26)) (by simp [Value.oneCell']) (by decide) (by unfold maxLen; omega) (by omega) (by have h := HBX3.out.size; have := HS6.out; omega) (w6.heap.size + 1) (World.size_alloc ..) ?_; intro gn capn w8 ho hg hat hlt8; have HST := Lib.hid (cp_val HAE.out HCA.out HBXN.out HCPN.out HAKN.out HBX0.out.size HBX2.out HV1.out HVB.out ho hg hat); have o4 := HST.out.1.cell 4 (v := lv) rfl; have o5 := frozenM HST.out.1 4; clear ho hg hat hlt8))
        all_goals (
          have HPF := Lib.hid HFU.out
          have HF2 := Lib.hid (HQ1.out N2 (fun i => if i < y then f i else .mk k1 m1 s1 nm1 a1 n1 cap1 ch1) (fun i hi => ⟨by rw [HN2.out, if_pos hi], if_pos hi⟩) HM.out (by rw [HN2.out, if_neg (Nat.lt_irrefl _)]) (by rw [if_neg (Nat.lt_irrefl _)]; exact HPFE.out _ HPF.out))

          clear o4 o5 l0 l2 l3 y1 y4 x0 x1 x2 x3 x4
          go_wp2_with fail
          go_roundw
          case rel => exact ⟨j + 1, z + 1, y + 1, N2, _, _, _, rfl, hlt, HX2.out, by omega, HST.out.2.1, HST.out.2.2.1, HF2.out, HGO2.out, HST.out.2.2.2⟩
          case measure => simp only [Lib.intOf]; omega)

      · have hiz := HIS1.out hm
        obtain rfl : ix = -1 := hiz
        have hez : x2 = z := by
          rcases HCASE.out with ⟨h1, _⟩ | ⟨_, _, h2⟩
          · exact absurd h1 hm
          · exact h2
        subst hez
        have HM := Lib.hid hm
        have u0 : decide ((0 : Int) ≤ -1) = false := by decide
        clear hm
        have e13 := (HCY2.out wq HBQ.out).2.2
        by_cases hd0 : dl.n = 0
        · have u1 : ((dl.n : Int) == 1) = false := beq_eq_false_iff_ne.2 (by omega)
          have HF2 := Lib.hid (HQD.out N f (fun i hi => ⟨rfl, rfl⟩) HM.out (fun i hi => by omega))
          rw [hd0, Nat.add_zero] at HF2
          clear hd0
          go_wp2_with fail
          go_roundw
          case rel => exact ⟨j + 1, _, y, N, f, _, _, rfl, hlt, HX2.out, by omega, HBXQ.out, HCPQ.out, HF2.out, HGO2.out, HAKQ.out⟩
          case measure => simp only [Lib.intOf]; omega
        · have hd1 : dl.n = 1 := by have := HDN1.out; omega
          have HR0 := Lib.hid (fun (W : World) (hW : Below w.heap.size w W) => HDEFC.out W hW (by omega))
          obtain ⟨ga, oa, hda, hga, _⟩ := (HDLI.out wq HBWQ.out).1.2.2.2 (by omega)
          obtain ⟨k0, m0, s0, nm0, a0, n0, cap0, c0, hv0⟩ := vin_mk ((HDLI.out wq HBWQ.out).2 0 (by omega))
          have hcell : (dl.f 0).cells = [.int .i64 k0, .int .i64 m0, .string s0, .slice nm0.a nm0.n nm0.cap, .slice a0 n0 cap0] := by rw [hv0, list5]
          have hr0 := HR0.out
          rw [hcell] at hr0
          have HR := Lib.hid hr0
          have HPFE := Lib.hid (fun (v : VT) (h : leafOf (dl.f 0) v) => (by rw [← HGJ.out]; exact h : GG j 0 v))
          have HRX := Lib.hid (show ∀ W, Below w.heap.size w W → (∀ q u, ([.int .i64 k0, .int .i64 m0, .string s0, .slice nm0.a nm0.n nm0.cap, .slice a0 n0 cap0] : List Value)[q]? = some u → W.cell? ⟨ga, oa + q, none⟩ = some u) from fun W hW q u hu => by
            obtain ⟨ga2, oa2, hda2, _, hca2⟩ := (HDLI.out W hW).1.2.2.2 (by omega)
            rw [hda] at hda2
            cases hda2
            have hc3 : ∀ q u, (dl.f 0).cells[q]? = some u → W.cell? ⟨ga, oa + 0 * 5 + q, none⟩ = some u := hca2 0 (by omega)
            have h := hc3 q u (by rw [hcell]; exact hu)
            rwa [Nat.zero_mul, Nat.add_zero] at h)
          have HDC := Lib.hid (show 1 ≤ dl.cap from by have := (HDLI.out wq HBWQ.out).1.1; omega)
          have HDA := Lib.hid hda
          have u1 : ((dl.n : Int) == 1) = true := by rw [hd1]; rfl
          have HD1 := Lib.hid hd1
          obtain ⟨PF, hPF⟩ : ∃ PF : VT → Prop, leafOf (dl.f 0) = PF := ⟨_, rfl⟩
          rw [hPF] at HPFE HR
          clear hr0 hcell hv0 hda hga hd0 hd1 hPF
          go_upto_region 14 with fail
          clear u1 e13
          go_upto_region 14 with fail
          go_cut [91] from 82 to 91 (fun _ wx => StN A c k m s W4 y N pn lv f wx)
          case first =>
            have HCLN := Lib.hid (show ∀ W, Below wq.heap.size wq W → W.cell? ⟨c, 3, none⟩ = some nv from fun W hW => (HBXQ.out.below hW HBXQ.out.lt).cell 3 rfl)
            have HBX0 := Lib.hid (Below.drew (Below.refl wq.heap.size wq))
            have HBA := Lib.hid (show Below wq.heap.size wq (wq.alloc (.cells #[.string pn] 9)).drew from Below.drew ((Below.refl wq.heap.size wq).alloc (Nat.le_refl _) (.cells #[.string pn] 9)))
            have HSA := Lib.hid (show (wq.alloc (.cells #[.string pn] 9)).drew.heap.size = wq.heap.size + 1 from World.size_alloc ..)
            have l0 := HCLN.out _ HBX0.out
            have l1 := HCLN.out _ HBA.out
            have g0 := HNM.out _ HBX0.out
            have g1 := HNM.out _ HBA.out
            go_region_law (refine step_append_lies _ (by rfl) (.tmp 83) (.tmp 89) 23 (by rfl) A 9 j0 (.string ⟨#[]⟩) 1 16 Tryz.underlying23 hj0 hy0 hy1 hy2 rfl (by decide) nv y (strsV N y) (by rfl) (HCPQ.out.below HBA.out).nm ⟨wq.heap.size, 0, none⟩ 1 1 [.string pn] (by rfl) (by rfl) (World.news_of_block (Bx.new wq #[.string pn] 9)) (by simp [Value.oneCell']) (by decide) (by unfold maxLen; omega) (by omega) (by rw [HSA.out]; have := HS5.out; omega) (wq.heap.size + 1) HSA.out ?_; intro gn capn w8 ho hg hat hlt8; have HST := Lib.hid (cp_name2 HAE.out HCA.out HBXQ.out HCPQ.out HAKQ.out HPNS.out HBA.out HSA.out ho hg hat); have o4 := HST.out.1.cell 3 (v := nv) rfl; have o5 := frozenM HST.out.1 3; clear ho hg hat hlt8)
            all_goals (
              clear o4 o5 l0 l1 g0 g1
              go_wp2_with fail
              go_meet
              exact ⟨_, _, HST.out.2.1, HST.out.2.2.1, HST.out.2.2.2⟩)
          rename World => wn
          obtain ⟨gN, cN, hbx, hcp, hak⟩ := hcut
          have HBXN := Lib.hid hbx
          have HCPN := Lib.hid hcp
          have HAKN := Lib.hid hak
          clear hbx hcp hak HBXQ HCPQ HAKQ
          have HS6 := Lib.hid (show A ≤ wn.heap.size from by have h1 := HAKN.out.size; have h2 := HAE.out; omega)
          have HBWN := Lib.hid (show Below w.heap.size w wn from HB4.out.trans (HAKN.out.below (by have h1 := HCE.out; have h2 := HBE.out; omega) (by have h1 := HAE.out; have h2 := HAB.out; have h3 := HBE.out; omega)))
          obtain ⟨nw, hnw⟩ : ∃ x : Value, Value.slice (some ⟨gN, 0, none⟩) (y + 1) cN = x := ⟨_, rfl⟩
          obtain ⟨N2, hN2⟩ : ∃ x : Nat → ByteArray, (fun i => if i < y then N i else pn) = x := ⟨_, rfl⟩
          have HN2 := Lib.hid (show ∀ i, N2 i = if i < y then N i else pn from fun i => by rw [← hN2])
          rw [hnw] at HBXN HCPN
          rw [hN2] at HCPN
          clear hnw hN2
          go_upto_region 15 with fail
          have HBZ := Lib.hid (show ∀ W, Below wn.heap.size wn W → Below w.heap.size w W from fun W hW => HBWN.out.trans (hW.mono HBWN.out.size))
          have HFJ := Lib.hid (show ∀ y, PF y → PF y from fun y h => h)
          have HCL := Lib.hid (show ∀ W, Below wn.heap.size wn W → W.cell? ⟨c, 4, none⟩ = some lv from fun W hW => (HBXN.out.below hW HBXN.out.lt).cell 4 rfl)
          have HBX0 := Lib.hid (Below.drew (Below.refl wn.heap.size wn))
          have l0 := HCL.out _ HBX0.out

          have hbn : Below w.heap.size w wn.drew := HBZ.out _ HBX0.out
          have hak4 := HAKN.out.then HBX0.out
          have y1 : wn.drew.cell? ⟨gy, oy + 1, none⟩ = some (.int .i64 (t : Nat)) := HTYN.out _ hak4
          have y3 : wn.drew.cell? ⟨gy, oy + 3, none⟩ = some (.slice (some ⟨ga, oa, none⟩) 1 dl.cap) := by
            have h := HTYD.out _ hak4
            rwa [HDA.out, HD1.out] at h
          have x0 : wn.drew.cell? ⟨ga, oa, none⟩ = some (.int .i64 k0) := by have h := HRX.out _ hbn 0 _ rfl; rwa [Nat.add_zero] at h
          have x1 : wn.drew.cell? ⟨ga, oa + 1, none⟩ = some (.int .i64 m0) := HRX.out _ hbn 1 _ rfl
          have x2 : wn.drew.cell? ⟨ga, oa + 2, none⟩ = some (.string s0) := HRX.out _ hbn 2 _ rfl
          have x3 : wn.drew.cell? ⟨ga, oa + 3, none⟩ = some (.slice nm0.a nm0.n nm0.cap) := HRX.out _ hbn 3 _ rfl
          have x4 : wn.drew.cell? ⟨ga, oa + 4, none⟩ = some (.slice a0 n0 cap0) := HRX.out _ hbn 4 _ rfl
          have t9 : decide ((0 : Int) < (1 : Int)) = true := by decide
          clear hbn hak4

          go_region_law (first
            | (go_simp; go_at_call 37; (refine (HR.out _ (HBZ.out _ HBX0.out)).mono ?_); rintro e w6 ⟨v1, rfl, hvi, hvb, hfu, h6⟩; obtain ⟨k1, m1, s1, nm1, a1, n1, cap1, ch1, rfl⟩ := vin_mk hvi; rw [list5]; have HBX2 := Lib.hid (HBX0.out.trans (h6.mono HBX0.out.size)); have HV1 := Lib.hid hvi; have HVB := Lib.hid hvb; have HFU := Lib.hid (HFJ.out _ hfu); clear h6 hvi hvb hfu; have l2 := HCL.out _ HBX2.out; have HBX3 := Lib.hid (HBX2.out.alloc HBX2.out.size (.cells #[.int .i64 k1, .int .i64 m1, .string s1, .slice nm1.a nm1.n nm1.cap, .slice a1 n1 cap1] 26)); have l3 := HCL.out _ HBX3.out)
            | (refine step_append_lies _ (by rfl) (.tmp 93) (.tmp 108) 24 (by rfl) A 26 i0 zeroV 5 80 Tryz.underlying24 hi0 hz0 hz1 hz2 rfl (by decide) lv y (flatV f y) (by rfl) (HCPN.out.below HBX3.out).got.1 ⟨w6.heap.size, 0, none⟩ 1 1 [.int .i64 k1, .int .i64 m1, .string s1, .slice nm1.a nm1.n nm1.cap, .slice a1 n1 cap1] (by rfl) (by rfl) (World.news_of_block (Bx.new w6 #[.int .i64 k1, .int .i64 m1, .string s1, .slice nm1.a nm1.n nm1.cap, .slice a1 n1 cap1] 26)) (by simp [Value.oneCell']) (by decide) (by unfold maxLen; omega) (by omega) (by have h := HBX3.out.size; have := HS6.out; omega) (w6.heap.size + 1) (World.size_alloc ..) ?_; intro gn capn w8 ho hg hat hlt8; have HST := Lib.hid (cp_val HAE.out HCA.out HBXN.out HCPN.out HAKN.out HBX0.out.size HBX2.out HV1.out HVB.out ho hg hat); have o4 := HST.out.1.cell 4 (v := lv) rfl; have o5 := frozenM HST.out.1 4; clear ho hg hat hlt8))
          all_goals (
            have HPF := Lib.hid HFU.out
            have HF2 := Lib.hid (HQD.out N2 (fun i => if i < y then f i else .mk k1 m1 s1 nm1 a1 n1 cap1 ch1) (fun i hi => ⟨by rw [HN2.out, if_pos hi], if_pos hi⟩) HM.out (fun i hi => by
              obtain rfl : i = 0 := by have := HD1.out; omega
              exact ⟨by rw [HN2.out, if_neg (by omega)], by rw [if_neg (by omega)]; exact HPFE.out _ HPF.out⟩))
            rw [HD1.out] at HF2

            clear o4 o5 l0 l2 l3 y1 y3 x0 x1 x2 x3 x4 t9
            go_wp2_with fail
            go_roundw
            case rel => exact ⟨j + 1, _, y + 1, N2, _, _, _, rfl, hlt, HX2.out, by omega, HST.out.2.1, HST.out.2.2.1, HF2.out, HGO2.out, HST.out.2.2.2⟩
            case measure => simp only [Lib.intOf]; omega)

    · have q1 : decide ((j : Int) < (CN : Int)) = false := decide_eq_false (by omega)
      have q1n : decide (j < CN) = false := decide_eq_false hlt
      obtain rfl : j = CN := by omega
      have hyj := HYJ.out
      have hcn5 := HCN.out
      have hzn : z = nm.n := by
        have h := HGO.out
        rw [HSEQ.out] at h
        injection h with h
        exact h.symm
      have HSQ2 := Lib.hid (show SeqR r nm ⟨none, y, 0, N⟩ (fun x y t => FF x t (f y)) (fun k j y => GG k j (f y)) j nm.n y from by rw [← hzn]; exact HSQ.out)
      obtain ⟨a1, c1, rfl, _, _⟩ := HCP.out.names (by omega)
      obtain ⟨a2, c2, rfl, _, _, _⟩ := HCP.out.got.row (by omega)
      have HZR := Lib.hid (HX6.out.below (HAK.out.below (B := b + 1 + 1) (by have := HCE.out; omega) (by have h1 := HAE.out; have h2 := HAB.out; omega)) (by omega))
      clear hzn
      go_wp2_with (first
        | (refine wpList_load_mid rfl 26 (.tmp 8) rfl c 0 rfl [.int .i64 k, .int .i64 m, .string s, .slice a1 y c1, .slice a2 y c2] _ HBX.out.range Tryz.underlying26 rfl (by rw [info_V]; rfl) ?_)
        | (refine wpList_store_bx rfl 26 (.tmp 6) (.tmp 168) rfl 5 (b + 1) _ [.int .i64 k, .int .i64 m, .string s, .slice a1 y c1, .slice a2 y c2] HZR.out (by rfl) (by rfl) info_V (by simp [Value.oneCell']) rfl rfl ?_; intro w10 hz10 hx10 hb10 ho10; have HX10 := Lib.hid hx10; have HB10 := Lib.hid (HBWR.out.trans (hb10.mono (by have := HBE.out; omega))); have HK10 := Lib.hid (HCP.out.keepA (W' := w10) (fun q hq => ho10 q (by have := HAB.out; omega)) (by rw [hz10]; exact Nat.le_refl _)); clear hz10 hx10 hb10 ho10))

      obtain ⟨a1', c1', e1, hsl, hrp1⟩ := HK10.out.names (by omega)
      obtain ⟨a2', c2', e2, hrow, hrp2, hvs⟩ := HK10.out.got.row (by omega)
      cases e1
      cases e2
      have hA2 : ∀ q, A ≤ q → w.heap.size ≤ q := fun q hq => by have h2 := HAB.out; have h3 := HBE.out; omega
      refine bodyPost_ret (v := .agg #[.int .i64 k, .int .i64 m, .string s, .slice a1 y c1, .slice a2 y c2]) ?_ rfl ⟨.mk k m s ⟨a1, y, c1, N⟩ a2 y c2 f, rfl, ⟨⟨HVX.out.1, HVX.out.2.1, HVX.out.2.2.1, hsl⟩, hrow, fun i hi => (hvs i hi).1⟩, ⟨hrp1.mono hA2, hrp2.mono hA2, fun i hi => (hvs i hi).2.mono hA2⟩, HFUL.out _ _ _ _ _ _ _ HSQ2.out, HB10.out⟩
      exact results_cell_row (p := 6) rfl _ _ (b + 1) 26 _ (0, 0) _ rfl HX10.out Tryz.underlying26 rfl (by rw [info_V]; rfl)
end Go.Proofs.YtjhecpkdpomkmaaGreat
