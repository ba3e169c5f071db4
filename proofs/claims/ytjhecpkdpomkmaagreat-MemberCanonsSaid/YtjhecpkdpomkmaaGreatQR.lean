/-
  A bundle of texts, one behind the other: MbD1, MbD3.
-/
import Derived.Test.YtjhecpkdpomkmaaGreatQQA
import Derived.Test.YtjhecpkdpomkmaaGreatQK
import Derived.Deep.AppendLies
namespace Go.Proofs.YtjhecpkdpomkmaaGreat
open Go.RowKit
set_option linter.unusedVariables false
set_option linter.unusedSimpArgs false
set_option maxRecDepth 100000

/-- every block that a value's rows lie in has P -/
def rowP (P : Nat → Prop) (a : Option Addr) (n : Nat) : Prop := 0 < n → ∀ g o, a = some ⟨g, o, none⟩ → P g
def VBlk (P : Nat → Prop) : VT → Prop
  | .nil => True
  | .mk _ _ _ nm a n _ ch => rowP P nm.a nm.n ∧ rowP P a n ∧ ∀ i, i < n → VBlk P (ch i)
theorem rowP.mono {P Q : Nat → Prop} {a : Option Addr} {n : Nat} (h : rowP P a n) (hq : ∀ g, P g → Q g) : rowP Q a n := fun h0 g o ha => hq g (h h0 g o ha)
theorem VBlk.mono {P Q : Nat → Prop} (hq : ∀ g, P g → Q g) : ∀ {v : VT}, VBlk P v → VBlk Q v
  | .nil, _ => trivial
  | .mk _ _ _ nm a n _ ch, h => ⟨h.1.mono hq, h.2.1.mono hq, fun i hi => VBlk.mono hq (h.2.2 i hi)⟩
theorem RowAt.frame {P : Nat → Prop} {B B' : Nat} {W W' : World} {a : Option Addr} {n cap k : Nat} {cells : Nat → List Value} (h : RowAt B W a n cap k cells) (hp : rowP P a n) (hf : ∀ g, g < B → P g → W'.heap[g]? = W.heap[g]?) (hB : B ≤ B') : RowAt B' W' a n cap k cells :=
  ⟨h.1, h.2.1, h.2.2.1, fun hn => by
    obtain ⟨g, o, ha, hg, hc⟩ := h.2.2.2 hn
    exact ⟨g, o, ha, by omega, fun i hi j u hj => (World.cell?_of_block (w := W) (a := ⟨g, o + i * k + j, none⟩) (hf g hg (hp hn g o ha))).trans (hc i hi j u hj)⟩⟩
theorem VIn.frame {P : Nat → Prop} {B B' : Nat} {W W' : World} (hf : ∀ g, g < B → P g → W'.heap[g]? = W.heap[g]?) (hB : B ≤ B') : ∀ {v : VT}, VIn B W v → VBlk P v → VIn B' W' v
  | .nil, h, _ => h.elim
  | .mk k m s nm a n cap ch, h, hp => ⟨⟨h.1.1, h.1.2.1, h.1.2.2.1, h.1.2.2.2.1.frame hp.1 hf hB, h.1.2.2.2.2⟩, h.2.1.frame hp.2.1 hf hB, fun i hi => VIn.frame hf hB (h.2.2 i hi) (hp.2.2 i hi)⟩
/-- the rows of a value that is there lie below -/
theorem VIn.blk {B : Nat} {W : World} : ∀ {v : VT}, VIn B W v → VBlk (· < B) v
  | .nil, h => h.elim
  | .mk k m s nm a n cap ch, h => ⟨fun h0 g o ha => by
      obtain ⟨g', o', ha', hg, _⟩ := h.1.2.2.2.1.2.2.2 h0
      rw [ha'] at ha
      cases ha
      exact hg, fun h0 g o ha => by
      obtain ⟨g', o', ha', hg, _⟩ := h.2.1.2.2.2 h0
      rw [ha'] at ha
      cases ha
      exact hg, fun i hi => VIn.blk (h.2.2 i hi)⟩
theorem VBlk.and {P Q : Nat → Prop} : ∀ {v : VT}, VBlk P v → VBlk Q v → VBlk (fun g => P g ∧ Q g) v
  | .nil, _, _ => trivial
  | .mk _ _ _ nm a n _ ch, h, h2 => ⟨fun h0 g o ha => ⟨h.1 h0 g o ha, h2.1 h0 g o ha⟩, fun h0 g o ha => ⟨h.2.1 h0 g o ha, h2.2.1 h0 g o ha⟩, fun i hi => VBlk.and (h.2.2 i hi) (h2.2.2 i hi)⟩
def leafV (k m : Int) (s : ByteArray) : VT := .mk k m s noSL none 0 0 fun _ => .nil
theorem leafV_in (B : Nat) (W : World) {k m : Int} {s : ByteArray} (hk : I64 k) (hm : I64 m) (hs : s.size ≤ 140737488355328) : VIn B W (leafV k m s) :=
  ⟨⟨hk, hm, hs, noSL_in B W⟩, (row_none W 5 _).mono (Nat.zero_le B), fun i h => absurd h (Nat.not_lt_zero i)⟩
theorem leafV_blk (P : Nat → Prop) (k m : Int) (s : ByteArray) : VBlk P (leafV k m s) := ⟨fun h => absurd h (Nat.lt_irrefl _), fun h => absurd h (Nat.lt_irrefl _), fun i h => absurd h (Nat.not_lt_zero i)⟩
theorem leafV_cells (k m : Int) (s : ByteArray) : (leafV k m s).cells = [.int .i64 k, .int .i64 m, .string s, .slice none 0 0, .slice none 0 0] := rfl
theorem leafV_full {d : TB} {i : Nat} {k m : Int} {s : ByteArray} {nm : SL} {a : Option Addr} {n cap : Nat} {ch : Nat → VT} (h8 : (d.f i).kind ≠ 8) (h9 : (d.f i).kind ≠ 9) (h10 : (d.f i).kind ≠ 10) : (VT.mk k m s nm a n cap ch).full d i (leafV k m s) :=
  ⟨noSL, none, 0, 0, _, rfl, by rw [if_neg h9, if_neg h10, if_neg h8]; exact ⟨rfl, rfl⟩⟩
set_option maxHeartbeats 8000000 in
theorem comp_leaf (B : Nat) (w : World) (g x o : Nat) (d : TB) (i : Nat) (k m : Int) (s : ByteArray) (nm : SL) (a : Option Addr) (n cap : Nat) (ch : Nat → VT) (hR : RAt B w g x o d i) (hB : B ≤ w.heap.size) (h8 : (d.f i).kind ≠ 8) (h9 : (d.f i).kind ≠ 9) (h10 : (d.f i).kind ≠ 10) :
    Calls Tryz.prog 35 #[rV g x o d.n d.cap, .agg (VT.mk k m s nm a n cap ch).cells.toArray] w fun e w' => e = .returned (.agg (leafV k m s).cells.toArray) ∧ Below w.heap.size w w' := by
  rw [list5, leafV_cells]
  unfold rV
  have hx0 := Bx.new w #[.pointer (some ⟨g, x, none⟩), .slice (some ⟨g, o, none⟩) d.n d.cap] 72
  have hx1 := hx0.alloc (.cells #[.int .i64 k, .int .i64 m, .string s, .slice nm.a nm.n nm.cap, .slice a n cap] 26)
  have hx2 := hx1.alloc (.cells #[.int .i64 0, .int .i64 0, .string ⟨#[]⟩, .slice none 0 0, .slice none 0 0] 26)
  have hx3 := hx2.alloc (.cells #[.int .i64 k, .int .i64 m, .string s, .slice none 0 0, .slice none 0 0] 26)
  have hy1 := Bx.new (w.alloc (.cells #[.pointer (some ⟨g, x, none⟩), .slice (some ⟨g, o, none⟩) d.n d.cap] 72)) #[.int .i64 k, .int .i64 m, .string s, .slice nm.a nm.n nm.cap, .slice a n cap] 26
  have hy2 := hy1.alloc (.cells #[.int .i64 0, .int .i64 0, .string ⟨#[]⟩, .slice none 0 0, .slice none 0 0] 26)
  have hz2 := (Bx.new ((w.alloc (.cells #[.pointer (some ⟨g, x, none⟩), .slice (some ⟨g, o, none⟩) d.n d.cap] 72)).alloc (.cells #[.int .i64 k, .int .i64 m, .string s, .slice nm.a nm.n nm.cap, .slice a n cap] 26)) #[.int .i64 0, .int .i64 0, .string ⟨#[]⟩, .slice none 0 0, .slice none 0 0] 26).alloc (.cells #[.int .i64 k, .int .i64 m, .string s, .slice none 0 0, .slice none 0 0] 26)
  have hb0 := (Below.refl w.heap.size w).alloc (Nat.le_refl _) (.cells #[.pointer (some ⟨g, x, none⟩), .slice (some ⟨g, o, none⟩) d.n d.cap] 72)
  have hb1 := hb0.alloc hb0.size (.cells #[.int .i64 k, .int .i64 m, .string s, .slice nm.a nm.n nm.cap, .slice a n cap] 26)
  have hb2 := hb1.alloc hb1.size (.cells #[.int .i64 0, .int .i64 0, .string ⟨#[]⟩, .slice none 0 0, .slice none 0 0] 26)
  have hb3 := hb2.alloc hb2.size (.cells #[.int .i64 k, .int .i64 m, .string s, .slice none 0 0, .slice none 0 0] 26)
  have g0 := (hR.cells (w := ((w.alloc (.cells #[.pointer (some ⟨g, x, none⟩), .slice (some ⟨g, o, none⟩) d.n d.cap] 72)).alloc (.cells #[.int .i64 k, .int .i64 m, .string s, .slice nm.a nm.n nm.cap, .slice a n cap] 26)).alloc (.cells #[.int .i64 0, .int .i64 0, .string ⟨#[]⟩, .slice none 0 0, .slice none 0 0] 26)) (hb2.block g (Nat.lt_of_lt_of_le hR.lt hB))).1
  have g1 := (hR.cells (w := (((w.alloc (.cells #[.pointer (some ⟨g, x, none⟩), .slice (some ⟨g, o, none⟩) d.n d.cap] 72)).alloc (.cells #[.int .i64 k, .int .i64 m, .string s, .slice nm.a nm.n nm.cap, .slice a n cap] 26)).alloc (.cells #[.int .i64 0, .int .i64 0, .string ⟨#[]⟩, .slice none 0 0, .slice none 0 0] 26)).alloc (.cells #[.int .i64 k, .int .i64 m, .string s, .slice none 0 0, .slice none 0 0] 26)) (hb3.block g (Nat.lt_of_lt_of_le hR.lt hB))).1
  have hz3 := Bx.new (((w.alloc (.cells #[.pointer (some ⟨g, x, none⟩), .slice (some ⟨g, o, none⟩) d.n d.cap] 72)).alloc (.cells #[.int .i64 k, .int .i64 m, .string s, .slice nm.a nm.n nm.cap, .slice a n cap] 26)).alloc (.cells #[.int .i64 0, .int .i64 0, .string ⟨#[]⟩, .slice none 0 0, .slice none 0 0] 26)) #[.int .i64 k, .int .i64 m, .string s, .slice none 0 0, .slice none 0 0] 26
  have HB3 := Lib.hid hb3
  have HZ2 := Lib.hid hz2
  have HZ3 := Lib.hid hz3
  simp only [World.size_alloc] at HZ2 HZ3
  have v0 := hy2.cell 0 (v := .int .i64 k) rfl
  have v1 := hy2.cell 1 (v := .int .i64 m) rfl
  have v2 := hy2.cell 2 (v := .string s) rfl
  have p0 := hx3.cell 0 (v := .pointer (some ⟨g, x, none⟩)) rfl
  simp only [World.size_alloc] at v0 v1 v2
  have e8 : ((d.f i).kind == 8) = false := beq_eq_false_iff_ne.2 h8
  have e9 : ((d.f i).kind == 9) = false := beq_eq_false_iff_ne.2 h9
  have e10 : ((d.f i).kind == 10) = false := beq_eq_false_iff_ne.2 h10
  generalize (d.f i).kind = K at *
  clear hx0 hx1 hx2 hx3 hy1 hy2 hz2 hz3 hb0 hb1 hb2 hb3 hR hB h8 h9 h10
  go_enter Tryz.func35, Tryz.ntmps35
  go_wp2_with (first
    | (refine wpList_store_new rfl 26 (.tmp 5) (.tmp 16) rfl 5 _ [.int .i64 k, .int .i64 m, .string s, .slice none 0 0, .slice none 0 0] rfl (by rfl) info_V (by simp [Value.oneCell']) rfl rfl ?_)
    | (refine wpList_load_mid rfl 26 (.tmp 5) rfl (w.heap.size + 1 + 1 + 1) 0 rfl [.int .i64 k, .int .i64 m, .string s, .slice none 0 0, .slice none 0 0] _ HZ3.out.range Tryz.underlying26 rfl (by rw [info_V]; rfl) ?_)
    | (refine wpList_store_bx rfl 26 (.tmp 4) (.tmp 70) rfl 5 (w.heap.size + 1 + 1) _ [.int .i64 k, .int .i64 m, .string s, .slice none 0 0, .slice none 0 0] HZ2.out (by rfl) (by rfl) info_V (by simp [Value.oneCell']) rfl rfl ?_; intro w5 hz5 hx5 hb5 ho5; have HX5 := Lib.hid hx5; have HB5 := Lib.hid (HB3.out.trans (hb5.mono (by omega))); clear hz5 hx5 hb5 ho5))
  refine bodyPost_ret (v := .agg #[.int .i64 k, .int .i64 m, .string s, .slice none 0 0, .slice none 0 0]) ?_ rfl ⟨rfl, HB5.out⟩
  exact results_cell_row (p := 4) rfl _ _ (w.heap.size + 1 + 1) 26 _ (0, 0) _ rfl HX5.out Tryz.underlying26 rfl (by rw [info_V]; rfl)
end Go.Proofs.YtjhecpkdpomkmaaGreat

namespace Go.Proofs.YtjhecpkdpomkmaaGreat
open Go.RowKit
set_option linter.unusedVariables false
set_option linter.unusedSimpArgs false
set_option maxRecDepth 100000

/-- the cells of the first k, one behind the other -/
def flatV (f : Nat → VT) : Nat → List Value
  | 0 => []
  | k + 1 => flatV f k ++ (f k).cells
theorem flatV_congr {f g : Nat → VT} {k : Nat} (h : ∀ i, i < k → f i = g i) : flatV f k = flatV g k := by
  induction k with
  | zero => rfl
  | succ k ih => simp only [flatV, ih (fun i hi => h i (by omega)), h k (by omega)]
theorem flatV_len {f : Nat → VT} : ∀ {k : Nat}, (∀ i, i < k → (f i).cells.length = 5) → (flatV f k).length = k * 5
  | 0, _ => rfl
  | k + 1, h => by
    have h1 := flatV_len (f := f) (k := k) (fun i hi => h i (by omega))
    have h2 := h k (by omega)
    simp only [flatV, List.length_append]
    omega
theorem flatV_get {f : Nat → VT} : ∀ {k i j : Nat} {u : Value}, (∀ i, i < k → (f i).cells.length = 5) → i < k → (f i).cells[j]? = some u → (flatV f k)[i * 5 + j]? = some u
  | 0, _, _, _, _, hi, _ => absurd hi (Nat.not_lt_zero _)
  | k + 1, i, j, u, h, hi, hu => by
    have hl := flatV_len (f := f) (k := k) (fun i hi => h i (by omega))
    have hj : j < 5 := by
      obtain ⟨hj, _⟩ := List.getElem?_eq_some_iff.1 hu
      rw [h i hi] at hj
      exact hj
    simp only [flatV]
    rcases Nat.lt_or_ge i k with h1 | h1
    · rw [List.getElem?_append_left (by omega)]
      exact flatV_get (fun i hi => h i (by omega)) h1 hu
    · obtain rfl : i = k := by omega
      rw [List.getElem?_append_right (by omega), hl, show i * 5 + j - i * 5 = j by omega]
      exact hu
/-- a row of one's own, of values whose rows lie apart from it -/
def GotV (A : Nat) (W : World) (v : Value) (k : Nat) (f : Nat → VT) : Prop :=
  W.ownsRow A 26 5 v k (flatV f k) ∧ ∀ i, i < k → VIn W.heap.size W (f i) ∧ VBlk (fun g => A ≤ g ∧ some g ≠ v.ownBlock) (f i)
theorem GotV.nil (A : Nat) (W : World) (f : Nat → VT) : GotV A W (.slice none 0 0) 0 f := ⟨World.ownsRow_nil _ _ _ _, fun i h => absurd h (Nat.not_lt_zero i)⟩
theorem GotV.below {A : Nat} {W W' : World} {v : Value} {k : Nat} {f : Nat → VT} (h : GotV A W v k f) (hb : Below W.heap.size W W') : GotV A W' v k f :=
  ⟨own_under h.1 hb, fun i hi => ⟨((h.2 i hi).1.below hb (Nat.le_refl _)).below (Below.refl _ _) hb.size, (h.2 i hi).2⟩⟩
theorem GotV.field {A : Nat} {W : World} {v : Value} {k : Nat} {f : Nat → VT} (h : GotV A W v k f) {b j : Nat} (hb : b < A) (u : Value) : GotV A (W.setCell ⟨b, j, none⟩ u) v k f :=
  ⟨ownsRow_setCell_below h.1 hb u, fun i hi => ⟨VIn.frame (P := fun g => A ≤ g ∧ some g ≠ v.ownBlock) (fun g _ hp => Below.heap_setCell W ⟨b, j, none⟩ u g (by show g ≠ b; have := hp.1; omega)) (by simp) (h.2 i hi).1 (h.2 i hi).2, (h.2 i hi).2⟩⟩
theorem GotV.grow {A g cap : Nat} {W W' : World} {v : Value} {k : Nat} {f : Nat → VT} {x : VT} (h : GotV A W v k f) (hx : VIn W.heap.size W x) (hxb : VBlk (fun g => A ≤ g ∧ some g ≠ v.ownBlock) x)
    (ho : W'.ownsRow A 26 5 (.slice (some ⟨g, 0, none⟩) (k + 1) cap) (k + 1) (flatV f k ++ x.cells)) (hg : W.grownBy W' v.ownBlock) (hat : v.ownBlock = some g ∨ g = W.heap.size) :
    GotV A W' (.slice (some ⟨g, 0, none⟩) (k + 1) cap) (k + 1) (fun i => if i < k then f i else x) := by
  have key : ∀ y : VT, VIn W.heap.size W y → VBlk (fun g => A ≤ g ∧ some g ≠ v.ownBlock) y → VIn W'.heap.size W' y ∧ VBlk (fun q => A ≤ q ∧ some q ≠ (Value.slice (some ⟨g, 0, none⟩) (k + 1) cap).ownBlock) y := fun y hy hyb => by
    refine ⟨VIn.frame (P := fun g => A ≤ g ∧ some g ≠ v.ownBlock) (fun q hq hp => hg.block q hq hp.2) hg.size hy hyb, (VBlk.and hyb hy.blk).mono fun q hq => ⟨hq.1.1, fun e => ?_⟩⟩
    have e2 : q = g := by simpa [Value.ownBlock] using e
    rcases hat with h1 | h1
    · exact hq.1.2 (by rw [e2, h1])
    · have := hq.2
      omega
  refine ⟨?_, fun i hi => ?_⟩
  · have e1 : flatV (fun i => if i < k then f i else x) (k + 1) = flatV f k ++ x.cells := by
      simp only [flatV, Nat.lt_irrefl, if_false]
      rw [flatV_congr (g := f) fun i hi => if_pos hi]
    rw [e1]
    exact ho
  · dsimp only
    by_cases h1 : i < k
    · rw [if_pos h1]; exact key _ (h.2 i h1).1 (h.2 i h1).2
    · rw [if_neg h1]; exact key _ hx hxb
theorem GotV.keep {A : Nat} {W W' : World} {v : Value} {k : Nat} {f : Nat → VT} (h : GotV A W v k f) (hf : ∀ g, A ≤ g → W'.heap[g]? = W.heap[g]?) (hz : W.heap.size ≤ W'.heap.size) : GotV A W' v k f := by
  refine ⟨⟨h.1.1, ?_⟩, fun i hi => ⟨VIn.frame (P := fun g => A ≤ g ∧ some g ≠ v.ownBlock) (fun g _ hp => hf g hp.1) hz (h.2 i hi).1 (h.2 i hi).2, (h.2 i hi).2⟩⟩
  rcases h.1.2 with h2 | ⟨g, cap, cur, e1, e2, e3, e4⟩
  · exact .inl h2
  · exact .inr ⟨g, cap, cur, e1, e2, (hf g e2).trans e3, e4⟩
/-- read as a row -/
theorem GotV.row {A : Nat} {W : World} {v : Value} {k : Nat} {f : Nat → VT} (h : GotV A W v k f) (hk : k ≤ 140737488355328) :
    ∃ a cap, v = .slice a k cap ∧ RowAt W.heap.size W a k cap 5 (fun i => (f i).cells) ∧ rowP (A ≤ ·) a k ∧ ∀ i, i < k → VIn W.heap.size W (f i) ∧ VBlk (A ≤ ·) (f i) := by
  have hv : ∀ i, i < k → VIn W.heap.size W (f i) ∧ VBlk (A ≤ ·) (f i) := fun i hi => ⟨(h.2 i hi).1, (h.2 i hi).2.mono fun g hg => hg.1⟩
  rcases h.1.2 with ⟨rfl, rfl⟩ | ⟨g, cap, cur, rfl, hbg, hg, hnc, hcm, hsz, htk⟩
  · exact ⟨none, 0, rfl, (row_none W 5 _).mono (Nat.zero_le _), fun h => absurd h (Nat.lt_irrefl _), fun i h => absurd h (Nat.not_lt_zero i)⟩
  · have hl := (h.1.lt g rfl).2
    refine ⟨some ⟨g, 0, none⟩, cap, rfl, ⟨hnc, hk, fun h => (by cases h), fun h0 => ⟨g, 0, rfl, hl, fun i hi j u hj => ?_⟩⟩, fun _ q o ha => (by cases ha; exact hbg), hv⟩
    have h5 : ∀ i, i < k → (f i).cells.length = 5 := fun i hi => (one_vcells (h.2 i hi).1).1
    have := h.1.cells rfl (i * 5 + j) u (flatV_get h5 hi hj)
    rw [Addr.add_mid] at this
    rwa [show 0 + i * 5 + j = 0 + (i * 5 + j) by omega]
end Go.Proofs.YtjhecpkdpomkmaaGreat
