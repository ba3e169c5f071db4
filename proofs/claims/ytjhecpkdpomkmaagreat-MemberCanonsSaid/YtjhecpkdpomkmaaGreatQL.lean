/-
  A bundle of texts, one behind the other: ShR, MbY, MbY2, MbZ.
-/
import Derived.RangeFuncFrom
import Derived.RangeFuncBound
import Derived.RangeFuncCalls
import Derived.RangeFuncLeaves
import Derived.Test.YtjhecpkdpomkmaaGreatQK
import Derived.RangeFuncNested
import Derived.Shelf.RegionOpen
import Derived.WalkKit
import Derived.OwnWalkIn
import Derived.TacticsInMore
import Derived.LoopNIn
import Derived.LoopIn
import Derived.Shelf.SlIterI.Sorted
import Derived.Test.YtjhecpkdpomkmaaGreatQI
namespace Go.Proofs.YtjhecpkdpomkmaaGreat
open Go.RowKit
set_option linter.unusedVariables false
set_option linter.unusedSimpArgs false

/-- p abides the turn of a block from B on that is no cells -/
def BkR (B : Nat) (p : World → Prop) : Prop := ∀ (W : World) (l : Nat) (o o' : Obj), B ≤ l → W.heap[l]? = some o → o.isCells = false → p W → p (W.putObj l o')
/-- how the body of a round may be left: off its end, by a return, or by a break -/
def rfPost2 (N : World → Prop) (X : Code → World → Prop) (W : World) : Exit → Act → World → Prop
  | .normal, _, W' => KeepsOthers W W' ∧ N W'
  | .ret, _, W' => KeepsOthers W W' ∧ X .ret W'
  | .exit id, _, W' => KeepsOthers W W' ∧ X (.exit id) W'
  | .goto _, _, _ => False
  | .panic _, _, _ => False
  | .outgrown, _, _ => False

theorem rangeFunc_own2 {F : Fence} {n : Nat} {P : Program} {α : Type} {g : Operand} {ps : Array Tmp} {assign body : Code} {Q : Exit → Act → World → Prop} {a : Act} {w : World}
    (hro : F.round = none) (h1 : 1 ≤ n) {gf : Nat} {lb : Array Value} (hg : a.eval g = .func (.func gf) #[] lb) (hFg : F.fn gf) (eg : ∀ args w, (callFunc gf args).run P w = .ok (.enter gf args) w)
    {encs : α → Array Value} (hps : ∀ x, (encs x).size = ps.size)
    (I D : World → Prop) (E : Code → World → Prop) (M N : α → World → Prop) (M2 : α → Act → World → Prop) (X : Code → α → World → Prop)
    (hM : ∀ x, BkR w.heap.size (M x)) (hN : ∀ x, BkR w.heap.size (N x)) (hM2 : ∀ x a', BkR w.heap.size (M2 x a')) (hX : ∀ c x, BkR w.heap.size (X c x)) (hD : BkR w.heap.size D) (hE : ∀ c, BkR w.heap.size (E c))
    (h0 : ∀ o o', I ((w.alloc o).alloc o'))
    (hit : ∀ (l : Nat) (K : World → Prop) (Kx : Code → World → Prop) (W : World), (∀ A B, KeepsOthers A B → K A → K B) → (∀ c A B, KeepsOthers A B → Kx c A → Kx c B) →
      (∀ x W, M x W → K W → YieldAt F (n - 1 - 1) P l (encs x) W fun e W' => (e = .returned (.bool true) ∧ N x W' ∧ K W') ∨ (e = .returned (.bool false) ∧ ∃ c, X c x W' ∧ Kx c W')) →
      I W → K W → CallsIn F (n - 1) P gf (#[.func (.yield l) #[] #[]] ++ lb) W fun e W' => (∃ v, e = .returned v) ∧ ((D W' ∧ K W') ∨ (∃ c, E c W' ∧ Kx c W')))
    (hassign : ∀ (l : Nat) (x : α) (W : World) (K : Act → World → Prop), M x W → (∀ a' W', KeepsOthers W W' → M2 x a' W' → K a' W') →
      assign.wpIn (F.inRound l) (n - 1 - 1) P (Exit.then K (fun _ _ _ => False)) { tmps := (ps.zip (encs x)).foldl (fun t (p, v) => t.setIfInBounds p v) a.tmps, defers := [] } W)
    (hbody : ∀ (l : Nat) (x : α) (a' : Act) (W : World), M2 x a' W → body.wpIn (F.inRound l) (n - 1 - 1) P (rfPost2 (N x) (fun c => X c x) W) a' W)
    (hdone : ∀ (r : Nat) (W : World), w.heap.size ≤ r → D W → W.heap[r]? = some (.deferred (some [])) → Q .normal { a with defers := { target := .collected r, args := #[] } :: a.defers } W)
    (hstop : ∀ (r : Nat) (c : Code) (W : World), w.heap.size ≤ r → E c W → W.heap[r]? = some (.deferred (some [])) → c.wpIn F n P Q { a with defers := { target := .collected r, args := #[] } :: a.defers } W) :
    (Code.rangeFunc g ps assign body).wpIn F n P Q a w := by
  refine wpIn_rangeFunc ?_
  intro fn hfn
  rw [hro]
  obtain ⟨rec, hrec⟩ : ∃ rec : LoopState → Option Code → Loop, rec = fun st pe => { state := st, pending := pe, fn, tmps := a.tmps, params := ps, assign, body, defers := w.heap.size } := ⟨_, rfl⟩
  obtain ⟨W1, hW1⟩ : ∃ W1, (w.alloc (.deferred (some []))).alloc (.loop (rec .ready none)) = W1 := ⟨_, rfl⟩
  have hL1 : W1.heap[w.heap.size + 1]? = some (.loop (rec .ready none)) := by
    rw [← hW1]; have := World.alloc_heap_new (w.alloc (.deferred (some []))) (.loop (rec .ready none)); rwa [World.size_alloc] at this
  have hK1 : W1.heap[w.heap.size]? = some (.deferred (some [])) := by
    rw [← hW1]; exact (Below.heap_alloc _ _ _ (by simp)).trans (World.alloc_heap_new w _)
  have hI1 : I W1 := by rw [← hW1]; exact h0 _ _
  refine ⟨w.heap.size + 1, [{ target := .collected w.heap.size, args := #[] }], W1, { target := .fn (.func gf) lb, args := #[.func (.yield (w.heap.size + 1)) #[] #[]] }, W1, gf,
    #[.func (.yield (w.heap.size + 1)) #[] #[]] ++ lb, W1, ?_, ?_, ?_, ?_, fun _ => h1, ?_⟩
  · rw [← hW1, hrec]; exact run_enterLoop_outer _ _ _ _ _
  · simp only [resolve, hg]
    simp [go_sem]
  · intro f' hf'; simp [Target.leads] at hf'; subst hf'; exact hFg
  · simp [invoke, go_sem, eg]
  · refine (hit (w.heap.size + 1)
      (fun W => W.heap[w.heap.size + 1]? = some (.loop (rec .ready none)) ∧ W.heap[w.heap.size]? = some (.deferred (some [])))
      (fun c W => W.heap[w.heap.size + 1]? = some (.loop (rec .done (some c))) ∧ W.heap[w.heap.size]? = some (.deferred (some [])))
      W1 (fun A B hk ⟨h1, h2⟩ => ⟨hk.same _ _ h1 rfl, hk.same _ _ h2 rfl⟩) (fun c A B hk ⟨h1, h2⟩ => ⟨hk.same _ _ h1 rfl, hk.same _ _ h2 rfl⟩) ?_ hI1 ⟨hL1, hK1⟩).mono ?_
    · rintro x W hm ⟨hl, hk⟩
      have hy := run_yield (P := P) (args := encs x) hl (by rw [hrec]; exact hps x)
      rw [hrec] at hy
      refine ⟨fn, _, assign, body, hy, roundIn_of_wpIn hfn (hassign _ x W _ hm ?_)⟩
      clear hy
      intro a' Wa hka hm2
      replace hl := hka.same _ _ hl rfl
      replace hk := hka.same _ _ hk rfl
      have hlt : w.heap.size + 1 < Wa.heap.size := (Array.getElem?_eq_some_iff.1 hl).1
      clear hm hka W
      refine ⟨_, run_beginRound hl (by rw [hrec]), ?_⟩
      have hl2 : (Wa.putObj (w.heap.size + 1) (.loop { rec .ready none with state := .busy })).heap[w.heap.size + 1]? = some (.loop { rec .ready none with state := .busy }) := World.putObj_heap_same hlt
      have hk2 : (Wa.putObj (w.heap.size + 1) (.loop { rec .ready none with state := .busy })).heap[w.heap.size]? = some (.deferred (some [])) := (World.putObj_heap_other (by omega)).trans hk
      refine wpIn_mono (hbody _ x a' _ (hM2 x a' _ _ _ _ (by omega) hl rfl hm2)) ?_
      have fin : ∀ (jump : Option Code) (W3 : World), KeepsOthers (Wa.putObj (w.heap.size + 1) (.loop { rec .ready none with state := .busy })) W3 →
          (Instr.endRound (w.heap.size + 1) jump).run P W3 = .ok (.bool jump.isNone) (W3.putObj (w.heap.size + 1) (.loop (rec (if jump.isNone then .ready else .done) jump))) ∧
          W3.heap[w.heap.size + 1]? = some (.loop { rec .ready none with state := .busy }) ∧
          (W3.putObj (w.heap.size + 1) (.loop (rec (if jump.isNone then .ready else .done) jump))).heap[w.heap.size + 1]? = some (.loop (rec (if jump.isNone then .ready else .done) jump)) ∧
          (W3.putObj (w.heap.size + 1) (.loop (rec (if jump.isNone then .ready else .done) jump))).heap[w.heap.size]? = some (.deferred (some [])) := fun jump W3 hk3 => by
        have hl3 := hk3.same _ _ hl2 rfl
        have := run_endRound (P := P) jump hl3
        rw [hrec] at this ⊢
        exact ⟨this, by rw [hrec] at hl3; exact hl3, World.putObj_heap_same (Array.getElem?_eq_some_iff.1 hl3).1, (World.putObj_heap_other (by omega)).trans (hk3.same _ _ hk2 rfl)⟩
      rintro e a3 W3 hp
      cases e with
      | normal =>
        obtain ⟨hk3, hi3⟩ := hp
        obtain ⟨hr, hl3, hl4, hk4⟩ := fin none W3 hk3
        exact ⟨_, _, hr, .inl ⟨rfl, hN x _ _ _ _ (by omega) hl3 rfl hi3, hl4, hk4⟩⟩
      | ret =>
        obtain ⟨hk3, hi3⟩ := hp
        obtain ⟨hr, hl3, hl4, hk4⟩ := fin (some .ret) W3 hk3
        exact ⟨_, _, hr, .inr ⟨rfl, .ret, hX _ x _ _ _ _ (by omega) hl3 rfl hi3, hl4, hk4⟩⟩
      | exit id =>
        obtain ⟨hk3, hi3⟩ := hp
        obtain ⟨hr, hl3, hl4, hk4⟩ := fin (some (.exit id)) W3 hk3
        exact ⟨_, _, hr, .inr ⟨rfl, .exit id, hX _ x _ _ _ _ (by omega) hl3 rfl hi3, hl4, hk4⟩⟩
      | goto t => exact hp.elim
      | panic ch => exact hp.elim
      | outgrown => exact hp.elim
    · rintro e W2 ⟨⟨v, rfl⟩, (⟨hi, hl, hk⟩ | ⟨c, hi, hl, hk⟩)⟩
      · exact ⟨none, _, by have := run_endLoop (P := P) hl (by rw [hrec]; simp); rw [hrec] at this; exact this, hdone _ _ (Nat.le_refl _) (hD _ _ _ _ (by omega) hl rfl hi) ((World.putObj_heap_other (by omega)).trans hk)⟩
      · exact ⟨some c, _, by have := run_endLoop (P := P) hl (by rw [hrec]; simp); rw [hrec] at this; exact this, hstop _ c _ (Nat.le_refl _) (hE c _ _ _ _ (by omega) hl rfl hi) ((World.putObj_heap_other (by omega)).trans hk)⟩
end Go.Proofs.YtjhecpkdpomkmaaGreat

namespace Go.Proofs.YtjhecpkdpomkmaaGreat
open Go.RowKit Go.Shelf Go.Sort Go.Maps
set_option linter.unusedVariables false
set_option linter.unusedSimpArgs false
set_option maxRecDepth 100000

attribute [local go_sem] Oper.semAt_some

theorem bk_ne {W : World} {g l : Nat} {cs : Array Value} {t : TypeId} {fr : Nat × Nat} {o : Obj} (h : W.heap[g]? = some (.cells cs t fr)) (hl : W.heap[l]? = some o) (hc : o.isCells = false) : l ≠ g := fun e => by
  subst e
  rw [h] at hl
  cases hl
  simp [Obj.isCells] at hc
theorem bxBk {W : World} {g l : Nat} {cs : Array Value} {t : TypeId} {o : Obj} (h : Bx W g cs t) (hl : W.heap[l]? = some o) (hc : o.isCells = false) (o' : Obj) : Bx (W.putObj l o') g cs t :=
  (World.putObj_heap_other (Ne.symm (bk_ne h hl hc))).trans h
theorem ownBk {base s n l : Nat} {W : World} {v : Value} {e : TypeId} {xs : List Value} {o : Obj} (h : W.ownsRow base e s v n xs) (hl : W.heap[l]? = some o) (hc : o.isCells = false) (o' : Obj) : (W.putObj l o').ownsRow base e s v n xs := by
  rcases h with ⟨h1, h2⟩
  refine ⟨h1, ?_⟩
  rcases h2 with h2 | ⟨g, cap, cur, e1, e2, e3, e4⟩
  · exact .inl h2
  · exact .inr ⟨g, cap, cur, e1, e2, (World.putObj_heap_other (Ne.symm (bk_ne e3 hl hc))).trans e3, e4⟩
theorem belowBk {B l : Nat} {w W : World} (h : Below B w W) (hB : B ≤ l) (o' : Obj) : Below B w (W.putObj l o') :=
  ⟨h.os, h.tape, h.output, by simpa using h.size, fun k hk => (World.putObj_heap_other (by omega)).trans (h.block k hk)⟩

def RelVa (N : Nat) (J : Nat → World → Prop) (K : World → Prop) (iv : Value) (W : World) : Prop := ∃ i : Nat, i ≤ N ∧ iv = .int .i64 (i : Nat) ∧ J i W ∧ K W
set_option maxHeartbeats 8000000 in
/-- what 'Values' hands back: it gives the elements, one behind the other -/
theorem values1_ok (l g : Nat) (a : Option Addr) (N cap : Nat) (f : Nat → Int) (J : Nat → World → Prop) (K Z : World → Prop) (hN : N ≤ 9223372036854775807)
    (hJb : ∀ k W, J k W → W.cell? ⟨g, 0, none⟩ = some (.slice a N cap) ∧ ∀ i, i < N → ∃ gx ox : Nat, (∀ w, (Instr.indexAt 44 (.slice a N cap) (.int .i64 (i : Nat))).run Tryz.prog w = .ok (.pointer (some ⟨gx, ox, none⟩)) w) ∧ W.cell? ⟨gx, ox, none⟩ = some (.int .i64 (f i)))
    (n : Nat) (hY : ∀ k W, k < N → J k W → K W → YieldAt Fence.wide (n - 1) Tryz.prog l #[.int .i64 (f k)] W fun e W' => (e = .returned (.bool true) ∧ J (k + 1) W' ∧ K W') ∨ (e = .returned (.bool false) ∧ Z W'))
    (W : World) (h0 : J 0 W) (hKW : K W) :
    CallsIn Fence.wide n Tryz.prog 243 #[.func (.yield l) #[] #[], .pointer (some ⟨g, 0, none⟩)] W fun e W' =>
      (∃ v, e = .returned v) ∧ ((J N W' ∧ K W') ∨ Z W') := by
  have HJB := Lib.hid hJb
  have HYY := Lib.hid hY
  have c0 := (hJb 0 W h0).1
  have H0 := Lib.hid h0
  have HKW := Lib.hid hKW
  clear hJb hY h0 hKW
  refine callsIn_of_wp Tryz.func243 rfl trivial ?_ rfl
  simp only [Tryz.ntmps243, List.size_toArray, List.length_cons, List.length_nil, Nat.reduceAdd, Nat.reduceSub, Array.replicate_succ, Array.replicate_zero, List.push_toArray, List.append_toArray, List.nil_append, List.cons_append]
  gi_wp2_with fail
  gi_loopw [7] (fun iv wr => RelVa N J K iv wr) (fun iv _ => N - (Lib.intOf iv).toNat)
  case atStart => exact ⟨0, Nat.zero_le _, rfl, H0.out, HKW.out⟩
  case round =>
    obtain ⟨i, hi, rfl, hj, hk⟩ := hrel
    clear c0 H0 HKW
    by_cases hlt : i < N
    · have q1 : decide ((i : Int) < (N : Int)) = true := decide_eq_true (by omega)
      have q1n : decide (i < N) = true := decide_eq_true hlt
      have q3 : IntKind.i64.wrap ((i : Int) + 1) = ((i + 1 : Nat) : Int) := wrap_succ hlt hN
      obtain ⟨gx, ox, hix, hc⟩ := (HJB.out i wr hj).2 i hlt
      obtain ⟨fn, tmps, assign, body, hy, hR⟩ := HYY.out i wr hlt hj hk
      have HRR := Lib.hid hR
      obtain ⟨x, hx⟩ : ∃ x, f i = x := ⟨_, rfl⟩
      rw [hx] at hc hy
      clear hR hj hk hx
      gi_wp2_with fail
      refine ⟨fun h => (by cases h), ?_⟩
      refine HRR.out.mono ?_
      rintro e w3 (⟨rfl, h1, h2⟩ | ⟨rfl, h1⟩)
      · have HJ3 := Lib.hid h1
        have HK3 := Lib.hid h2
        clear h1 h2 hy HRR hc
        gi_wp2_with fail
        go_roundw
        case rel => exact ⟨i + 1, hlt, rfl, HJ3.out, HK3.out⟩
        case measure => simp only [Lib.intOf]; omega
      · have HZ := Lib.hid h1
        clear h1 hy HRR hc
        gi_wp2_with fail
        refine bodyPost_ret (results_none rfl _ _ _) rfl ?_
        exact ⟨⟨_, rfl⟩, .inr HZ.out⟩
    · have q1 : decide ((i : Int) < (N : Int)) = false := decide_eq_false (by omega)
      have q1n : decide (i < N) = false := decide_eq_false hlt
      obtain rfl : i = N := by omega
      have HJ3 := Lib.hid hj
      have HK3 := Lib.hid hk
      clear hj hk
      gi_wp2_with fail
      go_end0
      exact ⟨⟨_, rfl⟩, .inl ⟨HJ3.out, HK3.out⟩⟩

theorem own_shapeM {W : World} {base e size k : Nat} {v : Value} {xs : List Value} (h : W.ownsRow base e size v k xs) : ∃ a cap, v = .slice a k cap := by
  rcases h.2 with ⟨rfl, rfl⟩ | ⟨g, cap, cur, rfl, _⟩
  · exact ⟨_, _, rfl⟩
  · exact ⟨_, _, rfl⟩
theorem bxGrown {W W' : World} {b base e size k : Nat} {v u : Value} {xs : List Value} {ty : TypeId} (hbx : Bx W b #[u] ty) (ho : W.ownsRow base e size v k xs) (hb : b < base) (hg : W.grownBy W' v.ownBlock) : Bx W' b #[u] ty :=
  (hg.block b hbx.lt (fun e => by have := (ho.lt b e.symm).1; omega)).trans hbx
theorem own_cells {W : World} {base e size k : Nat} {v : Value} {xs : List Value} (h : W.ownsRow base e size v k xs) : ∀ (j : Nat) (o : Obj), v.ownBlock = some j → W.heap[j]? = some o → o.isCells = true := by
  intro j o hj ho
  rcases h.2 with ⟨rfl, _⟩ | ⟨g, cap, cur, rfl, _, hg, _⟩
  · cases hj
  · simp only [Value.ownBlock, Option.some.injEq] at hj
    subst hj
    rw [hg] at ho
    cases ho
    rfl
theorem own_setOther {W : World} {base e size k b : Nat} {v u : Value} {xs : List Value} (h : W.ownsRow base e size v k xs) (hb : b < base) : (W.setCell ⟨b, 0, none⟩ u).ownsRow base e size v k xs := by
  rcases h with ⟨h1, h2⟩
  refine ⟨h1, ?_⟩
  rcases h2 with h2 | ⟨g, cap, cur, e1, e2, e3, e4⟩
  · exact .inl h2
  · exact .inr ⟨g, cap, cur, e1, e2, (Below.heap_setCell _ _ _ _ (by show g ≠ b; omega)).trans e3, e4⟩
theorem below_setCell {B b : Nat} {w W : World} (h : Below B w W) (hB : B ≤ b) (u : Value) : Below B w (W.setCell ⟨b, 0, none⟩ u) :=
  ⟨h.os, h.tape, h.output, by simpa using h.size, fun k hk => (Below.heap_setCell _ _ _ _ (by show k ≠ b; omega)).trans (h.block k hk)⟩
def intsV (f : Nat → Int) (k : Nat) : List Value := (List.range k).map fun i => .int .i64 (f i)
theorem intsV_succ (f : Nat → Int) (k : Nat) : intsV f (k + 1) = intsV f k ++ [.int .i64 (f k)] := by
  unfold intsV
  rw [List.range_succ, List.map_append]
  rfl
/-- what is gathered: the box b holds a row of one's own of the first k -/
def AS (w0 : World) (b : Nat) (f : Nat → Int) (k : Nat) (W : World) : Prop :=
  Below w0.heap.size w0 W ∧ w0.heap.size ≤ b ∧ ∃ v, Bx W b #[v] 44 ∧ W.ownsRow (b + 1) 3 1 v k (intsV f k)
theorem AS.bk {w0 : World} {b : Nat} {f : Nat → Int} {k : Nat} {W : World} (h : AS w0 b f k W) {l : Nat} {o : Obj} (hl0 : w0.heap.size ≤ l) (hl : W.heap[l]? = some o) (hc : o.isCells = false) (o' : Obj) : AS w0 b f k (W.putObj l o') := by
  obtain ⟨h1, h2, v, h3, h4⟩ := h
  exact ⟨belowBk h1 hl0 o', h2, v, bxBk h3 hl hc o', ownBk h4 hl hc o'⟩
theorem AS.under {w0 : World} {b : Nat} {f : Nat → Int} {k : Nat} {W W' : World} (h : AS w0 b f k W) (hb : Below W.heap.size W W') : AS w0 b f k W' := by
  obtain ⟨h1, h2, v, h3, h4⟩ := h
  exact ⟨h1.trans (hb.mono h1.size), h2, v, h3.below hb h3.lt, own_under h4 hb⟩
def AM2 (w0 : World) (b g : Nat) (f : Nat → Int) (N : Nat) (k : Nat) (a' : Act) (W : World) : Prop := k < N ∧ AS w0 b f k W ∧
  a' = { tmps := #[.slice none 0 0, .func (.func 243) #[] #[.pointer (some ⟨g, 0, none⟩)], .pointer (some ⟨b, 0, none⟩), undef, .slice none 0 0, .int .i64 (f k),
    .func (.func 243) #[] #[.pointer (some ⟨g, 0, none⟩)], .int .i64 (f k), undef, undef, undef, undef, undef], defers := [] }
theorem info_i1 : (Tryz.prog.info? 3).map (fun i => (i.zero, i.size, i.bytes)) = some (some (.int .i64 0), 1, 8) := by kernel_rfl
set_option maxHeartbeats 8000000 in
theorem appendSeq_in (g : Nat) (a : Option Addr) (N cap : Nat) (f : Nat → Int) (w : World) (n : Nat) (hn : 3 ≤ n) (hN : N ≤ 1000000) (hgl : g < w.heap.size)
    (hc0 : w.cell? ⟨g, 0, none⟩ = some (.slice a N cap)) (hel : ∀ i, i < N → ∃ gx ox : Nat, gx < w.heap.size ∧ (∀ w, (Instr.indexAt 44 (.slice a N cap) (.int .i64 (i : Nat))).run Tryz.prog w = .ok (.pointer (some ⟨gx, ox, none⟩)) w) ∧ w.cell? ⟨gx, ox, none⟩ = some (.int .i64 (f i))) :
    CallsIn Fence.wide n Tryz.prog 258 #[.slice none 0 0, .func (.func 243) #[] #[.pointer (some ⟨g, 0, none⟩)]] w fun e w' =>
      ∃ v, e = .returned v ∧ w'.ownsRow w.heap.size 3 1 v N (intsV f N) ∧ Below w.heap.size w w' := by
  obtain ⟨i0, hi0, hz0, hz1, hz2⟩ := info_parts info_i1
  have hb0 := Bx.new w #[.slice none 0 0] 44
  have HA0 := Lib.hid (show AS w w.heap.size f 0 (w.alloc (.cells #[.slice none 0 0] 44)) from ⟨(Below.refl _ w).alloc (Nat.le_refl _) _, Nat.le_refl _, _, hb0, World.ownsRow_nil _ _ _ _⟩)
  have HEL := Lib.hid (show ∀ k W, AS w w.heap.size f k W → W.cell? ⟨g, 0, none⟩ = some (.slice a N cap) ∧ ∀ i, i < N → ∃ gx ox : Nat, (∀ w, (Instr.indexAt 44 (.slice a N cap) (.int .i64 (i : Nat))).run Tryz.prog w = .ok (.pointer (some ⟨gx, ox, none⟩)) w) ∧ W.cell? ⟨gx, ox, none⟩ = some (.int .i64 (f i)) from fun k W h =>
    ⟨(h.1.cell (p := ⟨g, 0, none⟩) hgl).trans hc0, fun i hi => by
      obtain ⟨gx, ox, h1, h2, h3⟩ := hel i hi
      exact ⟨gx, ox, h2, (h.1.cell (p := ⟨gx, ox, none⟩) h1).trans h3⟩⟩)
  clear hel hc0 hgl
  refine callsIn_of_wp_marks Tryz.func258 rfl trivial ?_ rfl
  simp only [Tryz.ntmps258, List.size_toArray, List.length_cons, List.length_nil, Nat.reduceAdd, Nat.reduceSub, Array.replicate_succ, Array.replicate_zero, List.push_toArray, List.append_toArray, List.nil_append, List.cons_append]
  gi_wp2_with fail
  obtain ⟨W0, hW0⟩ : ∃ W0, w.alloc (.cells #[.slice none 0 0] 44) = W0 := ⟨_, rfl⟩
  have HSZ := Lib.hid (show W0.heap.size = w.heap.size + 1 by rw [← hW0]; simp)
  rw [hW0] at HA0 ⊢
  clear hW0 hb0
  refine rangeFunc_own2 (α := Nat) rfl (by omega) (gf := 243) (lb := #[.pointer (some ⟨g, 0, none⟩)]) rfl trivial (enters_of Tryz.func243 (by kernel_rfl) rfl)
    (encs := fun k => #[.int .i64 (f k)]) (fun _ => rfl)
    (fun W => AS w w.heap.size f 0 W) (fun W => AS w w.heap.size f N W) (fun c W => False)
    (fun k W => k < N ∧ AS w w.heap.size f k W) (fun k W => AS w w.heap.size f (k + 1) W) (AM2 w w.heap.size g f N) (fun c k W => False)
    (fun x W r o o' hr hl hc h => ⟨h.1, h.2.bk (by have := HSZ.out; omega) hl hc o'⟩)
    (fun x W r o o' hr hl hc h => h.bk (by have := HSZ.out; omega) hl hc o')
    (fun x a' W r o o' hr hl hc ⟨h1, h2, h3⟩ => ⟨h1, h2.bk (by have := HSZ.out; omega) hl hc o', h3⟩)
    (fun c x W r o o' hr hl hc h => h)
    (fun W r o o' hr hl hc h => h.bk (by have := HSZ.out; omega) hl hc o')
    (fun c W r o o' hr hl hc h => h)
    (fun o o' => HA0.out.under (((Below.refl _ _).alloc (Nat.le_refl _) _).alloc (by simp) _))
    (fun r K Kx W hK hKx hY hI hk => (values1_ok r g a N cap f (fun k W => AS w w.heap.size f k W) K (fun W => ∃ c, False ∧ Kx c W) (by omega) HEL.out (n - 1)
      (fun k W hk' hm hk2 => (hY k W ⟨hk', hm⟩ hk2).mono (fun e w' h => by
        rcases h with ⟨h1, h2, h3⟩ | ⟨h1, c, h2, h3⟩
        · exact .inl ⟨h1, h2, h3⟩
        · exact h2.elim)) W hI hk).mono (fun e w' h => h))
    ?assign ?body ?done ?stop
  case assign =>
    rintro r k W K ⟨hk, hd⟩ hK
    have HD := Lib.hid hd
    have HKK := Lib.hid hK
    obtain ⟨x, hx⟩ : ∃ x, f k = x := ⟨_, rfl⟩
    have HX := Lib.hid hx
    rw [hx]
    clear hd hK hx
    gi_wp2_with fail
    exact HKK.out _ _ (KeepsOthers.refl _) ⟨hk, HD.out, by rw [HX.out]⟩
  case body =>
    rintro r k a' W ⟨hk, ⟨hb1, hb2, v, hbx, hown⟩, rfl⟩
    obtain ⟨sa, sc, rfl⟩ := own_shapeM hown
    have HB1 := Lib.hid hb1
    have HB2 := Lib.hid hb2
    have HBX := Lib.hid hbx
    have HO := Lib.hid hown
    have HS := Lib.hid (intsV_succ f k)
    have c0 := hbx.cell 0 rfl
    obtain ⟨x, hx⟩ : ∃ x, f k = x := ⟨_, rfl⟩
    rw [hx] at HS ⊢
    have hsz : w.heap.size + 1 ≤ W.heap.size := hbx.lt
    have HSW := Lib.hid hsz
    clear hb1 hb2 hbx hown hx
    gi_wp2_with (gi_at_builtin; refine wpListIn_append_own _ rfl (.tmp 8) (.tmp 10) 44 rfl (w.heap.size + 1) 3 i0 (.int .i64 0) 1 8 Tryz.underlying44 hi0 hz0 hz1 hz2 rfl (by decide) _ k (intsV f k) rfl (World.ownsRow.alloc HO.out _) ⟨W.heap.size, 0, none⟩ 1 1 [.int .i64 x] rfl rfl (cell_one_new _ _ _) (by simp [Value.oneCell']) (by unfold maxLen; omega) (by omega) (by have := HSW.out; first | omega | (simp; omega)) ?_; intro v' w4 hown4 hgr4 _; obtain ⟨a', cap', rfl⟩ := own_shapeM hown4; have hbx4 := bxGrown (HBX.out.alloc (.cells #[.int .i64 x] 3)) (World.ownsRow.alloc HO.out (.cells #[.int .i64 x] 3)) (Nat.lt_succ_self _) hgr4; have c4 := hbx4.cell 0 rfl; have f4 : w4.frozen? ⟨w.heap.size, 0, none⟩ = false := frozen_of_row w4 w.heap.size 0 _ _ hbx4; have HBX4 := Lib.hid hbx4; have HO4 := Lib.hid hown4; have HG4 := Lib.hid hgr4; clear hown4 hgr4 hbx4)
    refine ⟨(KeepsOthers.alloc W (.cells #[.int .i64 x] 3)).trans ((KeepsOthers.of_grownBy HG4.out (own_cells (World.ownsRow.alloc HO.out _))).trans (KeepsOthers.setCell _ _ _)), ?_⟩
    refine ⟨below_setCell (grown_below (HB1.out.alloc HB1.out.size _) (ownsRow_base_a (World.ownsRow.alloc HO.out (.cells #[.int .i64 x] 3)) (Nat.le_succ _)) (by have := HSW.out; first | omega | (simp; omega)) HG4.out) (Nat.le_refl _) _, Nat.le_refl _, _, one_setCell HBX4.out, ?_⟩
    rw [HS.out]
    exact own_setOther HO4.out (Nat.lt_succ_self _)
  case done =>
    rintro r W hr ⟨h1, h2, v, h3, h4⟩ hK'
    have c0 := h3.cell 0 rfl
    have HB := Lib.hid (belowBk h1 (by have := HSZ.out; omega) (l := r) (.deferred none))
    have HO := Lib.hid (ownBk h4 hK' rfl (.deferred none))
    clear h1 h2 h3 h4
    gi_wp2_with fail
    refine ⟨by simp, .inl ⟨_, _, rfl, run_takeDeferred hK', ?_⟩⟩
    exact ⟨_, results_tmp rfl _ _ _, _, rfl, ownsRow_base_a HO.out (by omega), HB.out⟩
  case stop =>
    rintro r c W hr h hK'
    exact h.elim
end Go.Proofs.YtjhecpkdpomkmaaGreat

namespace Go.Proofs.YtjhecpkdpomkmaaGreat
open Go.RowKit Go.Shelf Go.Sort Go.Maps
set_option linter.unusedVariables false
set_option linter.unusedSimpArgs false
set_option maxRecDepth 100000

theorem Values_ok (a : Option Addr) (n cap : Nat) (w : World) :
    Calls Tryz.prog 205 #[.slice a n cap] w fun e w' => e = .returned (.func (.func 243) #[] #[.pointer (some ⟨w.heap.size, 0, none⟩)]) ∧ w' = w.alloc (.cells #[.slice a n cap] 44) := by
  go_enter Tryz.func205, Tryz.ntmps205
  go_wp2_with fail
  go_ret
  exact ⟨rfl, rfl⟩
def intsL (f : Nat → Int) (N : Nat) : List Int := (List.range N).map f
set_option maxHeartbeats 4000000 in
theorem Sorted_ok (g : Nat) (a : Option Addr) (N cap : Nat) (f : Nat → Int) (w : World) (hN : N ≤ 1000000) (hgl : g < w.heap.size)
    (hc0 : w.cell? ⟨g, 0, none⟩ = some (.slice a N cap)) (hel : ∀ i, i < N → ∃ gx ox : Nat, gx < w.heap.size ∧ (∀ w, (Instr.indexAt 44 (.slice a N cap) (.int .i64 (i : Nat))).run Tryz.prog w = .ok (.pointer (some ⟨gx, ox, none⟩)) w) ∧ w.cell? ⟨gx, ox, none⟩ = some (.int .i64 (f i))) :
    Calls Tryz.prog 204 #[.func (.func 243) #[] #[.pointer (some ⟨g, 0, none⟩)]] w fun e w' =>
      ∃ v, e = .returned v ∧ w'.ownsRow w.heap.size 3 1 v N (((intsL f N).mergeSort fun x y => decide (x ≤ y)).map (Value.int .i64)) ∧ Below w.heap.size w w' := by
  have HAS := Lib.hid ((callsIn_wide (n := 5)).1 (appendSeq_in g a N cap f w 5 (by omega) hN hgl hc0 hel))
  have HCO : Hid (Calls Tryz.prog 241 #[.func (.func 243) #[] #[.pointer (some ⟨g, 0, none⟩)]] w fun e w' => ∃ v, e = .returned v ∧ w'.ownsRow w.heap.size 3 1 v N (intsV f N) ∧ Below w.heap.size w w') := Lib.hid (by
    clear hel hc0 hgl hN
    go_enter Tryz.func241, Tryz.ntmps241
    go_wp2_with fail
    refine HAS.out.mono ?_
    rintro e w1 ⟨v, rfl, ho, hb⟩
    have HO := Lib.hid ho
    have HB := Lib.hid hb
    clear ho hb
    go_wp2_with fail
    go_ret
    exact ⟨v, rfl, HO.out, HB.out⟩)
  clear hel hc0 hgl HAS
  go_enter Tryz.func204, Tryz.ntmps204
  go_wp2_with fail
  refine HCO.out.mono ?_
  rintro e w1 ⟨v, rfl, ho, hb⟩
  have HB := Lib.hid hb
  rcases ho.2 with ⟨rfl, hz⟩ | ⟨gb, cp, cur, rfl, hbase, hgb, r1, r2, r3, r4⟩
  · have HS := Lib.hid (fun W => AnyM.slices_Sort_int_none Tryz.sortA none 0 W)
    change Hid (∀ W, Calls Tryz.prog 242 _ _ _) at HS
    subst hz
    have HO := Lib.hid ho
    clear ho hb
    go_wp2_with fail
    refine (HS.out _).mono ?_
    rintro e w2 ⟨rfl, rfl⟩
    go_wp2_with fail
    go_ret
    exact ⟨_, rfl, by simpa [intsL, intsV] using HO.out, HB.out⟩
  · have hlen : (intsL f N).length = N := by simp [intsL]
    have hH : Holds encZ w1 gb 0 (intsL f N).toArray := holds_of_block_i hgb (by rw [hlen, ← Nat.mul_one N, r4]; simp [intsL, intsV, encZ])
    have hgl : gb < w1.heap.size := (Array.getElem?_eq_some_iff.1 hgb).1
    have hS := AnyM.slices_Sort_int Tryz.sortA gb 0 cp (intsL f N) w1 hH hgl (by rw [hlen]; omega)
    rw [hlen] at hS
    have HS := Lib.hid hS
    change Hid (Calls Tryz.prog 242 _ _ _) at HS
    have HSO := Lib.hid (fun (m : Nat) (os : Array Obj) => ownsRow_sorted_i (w := w1) (n := m) (os := os) (ss := intsL f N) (ts := (intsL f N).mergeSort fun x y => decide (x ≤ y)) (by simp) hbase hgb (by rw [hlen]; exact r1) r2 r3)
    have HGR := Lib.hid (fun (m : Nat) (os : Array Obj) => hb.grown (grownBy_sorted_i (w := w1) (g := gb) (n := m) (os := os) ((intsL f N).mergeSort fun x y => decide (x ≤ y)).toArray) hb.size (fun k hk => by cases hk; exact hbase))
    simp only [hlen] at HSO
    clear ho hb hgb r1 r2 r3 r4 hH hgl hS hbase hlen
    go_wp2_with fail
    refine HS.out.mono ?_
    rintro e w2 ⟨rfl, m, os, rfl⟩
    have HO2 := Lib.hid (HSO.out m os)
    have HB2 := Lib.hid (HGR.out m os)
    go_wp2_with fail
    go_ret
    exact ⟨_, rfl, HO2.out, HB2.out⟩

theorem perm_sorted (f : Nat → Int) (N : Nat) : (intsL f N).Perm ((List.range N).map Int.ofNat) ↔ (intsL f N).mergeSort (fun x y => decide (x ≤ y)) = (List.range N).map Int.ofNat := by
  constructor
  · intro h
    have h1 : ((intsL f N).mergeSort (fun x y => decide (x ≤ y))).Perm ((List.range N).map Int.ofNat) := (List.mergeSort_perm _ _).trans h
    refine h1.eq_of_pairwise (le := fun x y => x ≤ y) ?_ ?_ ?_
    · intro a b _ _ h2 h3; omega
    · have := List.pairwise_mergeSort (le := fun x y : Int => decide (x ≤ y)) (by intro a b c h1 h2; simp at *; omega) (by intro a b; simp; omega) (intsL f N)
      exact this.imp (fun h => by simpa using h)
    · rw [List.pairwise_map]
      exact List.pairwise_lt_range.imp fun h => by show Int.ofNat _ ≤ Int.ofNat _; simp only [Int.ofNat_eq_natCast]; omega
  · intro h
    rw [← h]
    exact (List.mergeSort_perm _ _).symm
theorem list_is_range {S : List Int} {N : Nat} (hl : S.length = N) : S = (List.range N).map Int.ofNat ↔ ∀ i, i < N → S[i]! = (i : Int) := by
  constructor
  · intro h i hi
    rw [getElem!_pos S i (by omega)]
    subst h
    simp
  · intro h
    refine List.ext_getElem (by simp [hl]) fun i h1 h2 => ?_
    have := h i (by omega)
    rw [getElem!_pos S i h1] at this
    rw [this]
    simp
def RelOr (w : World) (S : List Int) (N : Nat) (iv : Value) (wr : World) : Prop := ∃ i : Nat, i ≤ N ∧ iv = .int .i64 (i : Nat) ∧ (∀ j, j < i → S[j]! = (j : Int)) ∧ wr = w
set_option maxHeartbeats 8000000 in
theorem isOrderRight_ok (B : Nat) (w : World) (r : DT) (hr : DTIn B w r) (hB : B ≤ w.heap.size) (hp : r.pa.n ≤ 1000000) :
    Calls Tryz.prog 145 #[.agg r.cells.toArray] w fun e w' => e = .returned (.bool r.orderOk) ∧ Below w.heap.size w w' := by
  have hx := Bx.new w r.cells.toArray 46
  have hb := (Below.refl w.heap.size w).alloc (Nat.le_refl _) (.cells r.cells.toArray 46)
  have c0 := hx.cell 0 (v := .int .i64 r.kind) rfl
  have c8 := hx.cell 8 (v := .slice r.pa.a r.pa.n r.pa.cap) rfl
  have c10 := hx.cell 10 (v := .slice r.ord.a r.ord.n r.ord.cap) rfl
  have HX0 := Lib.hid hx
  have HB0 := Lib.hid hb
  have HL := Lib.hid (show r.orderOk = if r.kind = 10 then decide (0 < r.pa.n) && decide (r.ord.n = r.pa.n) && decide ((intsL r.ord.f r.ord.n).Perm ((List.range r.pa.n).map Int.ofNat)) else decide (r.ord.n = 0) from rfl)
  have HSR := Lib.hid (fun (hn : r.ord.n ≤ 1000000) =>
    have hbx := Bx.new (w.alloc (.cells r.cells.toArray 46)) #[.slice r.ord.a r.ord.n r.ord.cap] 44
    have hb2 := hb.alloc hb.size (.cells #[.slice r.ord.a r.ord.n r.ord.cap] 44)
    Sorted_ok (w.alloc (.cells r.cells.toArray 46)).heap.size r.ord.a r.ord.n r.ord.cap r.ord.f ((w.alloc (.cells r.cells.toArray 46)).alloc (.cells #[.slice r.ord.a r.ord.n r.ord.cap] 44)) hn hbx.lt (hbx.cell 0 rfl) (fun i hi => by
      obtain ⟨gx, ox, h1, h2, h3⟩ := hr.2.2.2.2.2.2.1.read 44 3 Tryz.underlying44 (by kernel_rfl) Tryz.sizeOf3 hi
      exact ⟨gx, ox, Nat.lt_of_lt_of_le (Nat.lt_of_lt_of_le h2 hB) hb2.size, h1, h3 _ (hb2.block gx (Nat.lt_of_lt_of_le h2 hB)) 0 _ rfl⟩))
  generalize r.orderOk = res at *
  generalize r.kind = kd at *
  generalize r.pa.a = pa at *
  generalize r.pa.n = pn at *
  generalize r.pa.cap = pc at *
  generalize r.ord.a = oa at *
  generalize r.ord.n = on at *
  generalize r.ord.cap = oc at *
  generalize r.ord.f = f at *
  clear hx hb hr hB
  by_cases h10 : kd = 10
  · subst h10
    have HL2 := Lib.hid (show res = (decide (0 < pn) && decide (on = pn) && decide ((intsL f on).Perm ((List.range pn).map Int.ofNat))) from HL.out)
    by_cases h0 : pn = 0
    · subst h0
      have HZ := Lib.hid (show res = false from by rw [HL2.out]; rfl)
      clear HL HL2 HSR
      go_enter Tryz.func145, Tryz.ntmps145
      go_wp2_with fail
      go_ret
      exact ⟨by rw [HZ.out]; rfl, HB0.out⟩
    · have q0 : ((pn : Int) == 0) = false := beq_eq_false_iff_ne.2 (by omega)
      have q0n : (pn == 0) = false := beq_eq_false_iff_ne.2 h0
      by_cases h1 : on = pn
      · subst h1
        have q1 : ((on : Int) != (on : Int)) = false := by simp
        have hs := HSR.out hp
        rw [show (w.alloc (.cells r.cells.toArray 46)).heap.size = w.heap.size + 1 by simp] at hs
        have HS := Lib.hid hs
        have HVA := Lib.hid (fun W => Values_ok oa on oc W)
        have HZ := Lib.hid (show res = decide ((intsL f on).Perm ((List.range on).map Int.ofNat)) from by rw [HL2.out, decide_eq_true (show 0 < on by omega), decide_eq_true rfl]; rfl)
        have hln : ((intsL f on).mergeSort fun x y => decide (x ≤ y)).length = on := by simp [intsL]
        have HQ := Lib.hid ((perm_sorted f on).trans (list_is_range hln))
        have HLN := Lib.hid hln
        generalize (intsL f on).mergeSort (fun x y => decide (x ≤ y)) = S at *
        have HPN := Lib.hid hp
        clear HL HL2 HSR h0 hs hln hp
        go_enter Tryz.func145, Tryz.ntmps145
        go_wp2_with fail
        refine (HVA.out _).mono ?_
        rintro e w1 ⟨rfl, rfl⟩
        have e1 : (w.alloc (.cells r.cells.toArray 46)).heap.size = w.heap.size + 1 := by simp
        rw [e1]
        go_wp2_with fail
        refine HS.out.mono ?_
        rintro e w2 ⟨v, rfl, ho, h2⟩
        have hw1 := HB0.out.alloc HB0.out.size (.cells #[.slice oa on oc] 44)
        have HB2 := Lib.hid (hw1.trans (h2.mono hw1.size))
        obtain ⟨sa, sc, rfl⟩ := own_shapeM ho
        have HEL := Lib.hid (show ∀ i, i < on → ∃ gx ox : Nat, (∀ w, (Instr.indexAt 44 (.slice sa on sc) (.int .i64 (i : Nat))).run Tryz.prog w = .ok (.pointer (some ⟨gx, ox, none⟩)) w) ∧ w2.cell? ⟨gx, ox, none⟩ = some (.int .i64 S[i]!) from fun i hi => by
          rcases ho.2 with ⟨_, hz⟩ | ⟨gb, cp, cur, hv, hbase, hgb, r1, r2, r3, r4⟩
          · omega
          · simp only [Value.slice.injEq] at hv
            obtain ⟨rfl, _, rfl⟩ := hv
            refine ⟨gb, i, fun w => ?_, ?_⟩
            · have he : Tryz.prog.elem 44 = 3 := by kernel_rfl
              rw [run_indexAt_slice (h := by rw [he]; exact Tryz.underlying44), if_pos (by omega), he, Tryz.sizeOf3]
              simp [Result.andThen, Addr.add_mid]
            · rw [cell_of_row w2 gb i cur 3 _ hgb]
              have h5 : (cur.toList.take (on * 1))[i]? = (S.map (Value.int .i64))[i]? := by rw [r4]
              rw [List.getElem?_take_of_lt (by omega), Array.getElem?_toList, List.getElem?_map, List.getElem?_eq_getElem (by rw [HLN.out]; exact hi)] at h5
              rw [h5, getElem!_pos S i (by rw [HLN.out]; exact hi)]
              rfl)
        clear ho h2 hw1 HS c0 c8 c10
        go_wp2_with fail
        go_loopw [30] (fun iv wr => RelOr w2 S on iv wr) (fun iv _ => on - (Lib.intOf iv).toNat)
        case atStart => exact ⟨0, Nat.zero_le _, rfl, fun j hj => absurd hj (Nat.not_lt_zero _), rfl⟩
        case round =>
          obtain ⟨i, hi, rfl, hall, hw⟩ := hrel
          obtain rfl : w2 = wr := hw.symm
          have HA := Lib.hid hall
          clear hall hw
          by_cases hlt : i < on
          · have q2 : decide ((i : Int) < (on : Int)) = true := decide_eq_true (by omega)
            have q2n : decide (i < on) = true := decide_eq_true hlt
            have q3 : IntKind.i64.wrap ((i : Int) + 1) = ((i + 1 : Nat) : Int) := wrap_succ hlt (by have := HPN.out; omega)
            obtain ⟨gx, ox, hix, hc⟩ := HEL.out i hlt
            have HX := Lib.hid (fun (h : S[i]! = (i : Int)) => (show ∀ j, j < i + 1 → S[j]! = (j : Int) from fun j hj => by
              rcases Nat.lt_or_ge j i with h2 | h2
              · exact HA.out j h2
              · obtain rfl : j = i := by omega
                exact h))
            have HXF := Lib.hid (fun (h : S[i]! ≠ (i : Int)) => (show res = false from by rw [HZ.out]; exact decide_eq_false fun hp => h (HQ.out.1 hp i hlt)))
            generalize S[i]! = x at *
            by_cases hxi : x = (i : Int)
            · have HN := Lib.hid (HX.out hxi)
              have q4 : (x != (i : Int)) = false := by rw [hxi]; simp
              clear hxi HX HXF
              go_wp2_with fail
              go_roundw
              case rel => exact ⟨i + 1, hlt, rfl, HN.out, rfl⟩
              case measure => simp only [Lib.intOf]; omega
            · have HN := Lib.hid (HXF.out hxi)
              have q4 : (x != (i : Int)) = true := bne_iff_ne.2 hxi
              clear hxi HX HXF
              go_wp2_with fail
              go_ret
              exact ⟨by rw [HN.out]; rfl, HB2.out⟩
          · have q2 : decide ((i : Int) < (on : Int)) = false := decide_eq_false (by omega)
            have q2n : decide (i < on) = false := decide_eq_false hlt
            obtain rfl : i = on := by omega
            have HN := Lib.hid (show res = true from by rw [HZ.out]; exact decide_eq_true (HQ.out.2 HA.out))
            go_wp2_with fail
            go_ret
            exact ⟨by rw [HN.out]; rfl, HB2.out⟩
      · have q1 : ((on : Int) != (pn : Int)) = true := bne_iff_ne.2 (by omega)
        have HZ := Lib.hid (show res = false from by rw [HL2.out, decide_eq_false h1]; simp)
        clear HL HL2 HSR h0 h1
        go_enter Tryz.func145, Tryz.ntmps145
        go_wp2_with fail
        go_ret
        exact ⟨by rw [HZ.out]; rfl, HB0.out⟩
  · have q10 : (kd != 10) = true := bne_iff_ne.2 h10
    obtain ⟨b, hb⟩ : ∃ b, ((on : Int) == 0) = b := ⟨_, rfl⟩
    have HZ := Lib.hid (show res = b from by
      rw [HL.out, if_neg h10, ← hb]
      by_cases h : on = 0
      · subst h; rfl
      · rw [beq_eq_false_iff_ne.2 (show (on : Int) ≠ 0 by omega), decide_eq_false h])
    clear HL HSR h10
    go_enter Tryz.func145, Tryz.ntmps145
    go_wp2_with fail
    go_ret
    exact ⟨by rw [HZ.out]; first | rfl | simp, HB0.out⟩
end Go.Proofs.YtjhecpkdpomkmaaGreat

namespace Go.Proofs.YtjhecpkdpomkmaaGreat
open Go.RowKit
set_option linter.unusedVariables false
set_option linter.unusedSimpArgs false
set_option maxRecDepth 100000

theorem wpList_load_midM {ops : Array Oper} {rest : List Oper} {op : Oper} {a : Act} {w : World} {Q : Exit → Act → World → Prop} (hw : Region.wanted op (yielded ops a.tmps) = true) (ty : TypeId) (x : Operand) (ho : op.op = .load ty x)
    (b o : Nat) (hx : a.eval x = .pointer (some ⟨b, o, none⟩)) (cs : List Value) (d : TypeDesc) (hc : w.rangeAt b o cs)
    (hu : Tryz.prog.underlying ty = some d) (hd : d.isRow = true) (hi : (Tryz.prog.info? ty).map (·.size) = some cs.length)
    (h : wpList Tryz.prog ops Q rest (a.put op.dst (.agg cs.toArray)) w) : wpList Tryz.prog ops Q (op :: rest) a w :=
  wpList_step fun K hK => by
    simp only [hw, if_true]
    exact wp_load_mid ty x ho b o hx cs d hc hu hd hi (hK _ _ h)
set_option maxHeartbeats 16000000 in
theorem isRight_ok (B : Nat) (w : World) (r : DT) (rows : Nat) (hr : DTIn B w r) (hB : B ≤ w.heap.size) (hs : r.set.n ≤ 1000) :
    Calls Tryz.prog 87 #[.agg r.cells.toArray, .int .i64 (rows : Int)] w fun e w' => e = .returned (.bool (r.right rows)) ∧ Below w.heap.size w w' := by
  have hx := Bx.new w r.cells.toArray 46
  have hb := (Below.refl w.heap.size w).alloc (Nat.le_refl _) (.cells r.cells.toArray 46)
  have c0 := hx.cell 0 (v := .int .i64 r.kind) rfl
  have HX1 := Lib.hid hx
  have HB1 := Lib.hid hb
  have hin := fun (W : World) (hb : Below w.heap.size w W) => (hr.below (Below.refl _ _) hB).below hb (Nat.le_refl w.heap.size)
  have HC1 := Lib.hid (fun (W : World) => isKind_ok W r.kind)
  have HC2 := Lib.hid (fun (W : World) => isExtRight_ok W r)
  have HC3 := Lib.hid (fun (W : World) (hb : Below w.heap.size w W) => isSetRight_ok w.heap.size W r (hin W hb) hb.size hs)
  have HC4 := Lib.hid (fun (W : World) => isFromRight_ok W r hr.1.2.2.2.2)
  have HC5 := Lib.hid (fun (W : World) (hb : Below w.heap.size w W) => areNamesRight_ok w.heap.size W r (hin W hb) hb.size)
  have HC6 := Lib.hid (fun (W : World) (hb : Below w.heap.size w W) => arePartsRight_ok w.heap.size W r rows (hin W hb) hb.size)
  have HC7 := Lib.hid (fun (W : World) (hb : Below w.heap.size w W) (hp : r.partsOk rows = true) => isOrderRight_ok w.heap.size W r (hin W hb) hb.size (by
    unfold DT.partsOk at hp
    split at hp
    · simp only [Bool.and_eq_true, decide_eq_true_eq] at hp
      omega
    · simp only [Bool.and_eq_true, decide_eq_true_eq] at hp
      omega))
  have HC8 := Lib.hid (fun (W : World) => isElemRight_ok W r rows)
  have HL := Lib.hid (show r.right rows = (isKd r.kind && r.extOk && r.setOk && r.fromOk && r.namesOk && r.partsOk rows && r.orderOk && r.elemOk rows) from rfl)
  have H1 := Lib.hid (one_dcells r)
  generalize isKd r.kind = b1 at *
  generalize r.extOk = b2 at *
  generalize r.setOk = b3 at *
  generalize r.fromOk = b4 at *
  generalize r.namesOk = b5 at *
  generalize r.partsOk rows = b6 at *
  generalize r.orderOk = b7 at *
  generalize r.elemOk rows = b8 at *
  generalize r.right rows = res at *
  generalize r.kind = kd at *
  generalize r.cells = cs at *
  clear hx hb hin hr hB hs
  go_enter Tryz.func87, Tryz.ntmps87
  go_wp2_with fail
  obtain ⟨g, hg⟩ : ∃ g, w.heap.size = g := ⟨_, rfl⟩
  have HG := Lib.hid hg
  rw [hg] at HX1 ⊢
  clear hg
  refine (HC1.out _).mono ?_
  rintro e w2 ⟨rfl, rfl⟩
  clear c0
  generalize w.alloc (.cells cs.toArray 46) = w1 at *
  have HX2 := Lib.hid HX1.out
  have HB2 := Lib.hid HB1.out
  clear HX1 HB1
  cases b1 with
  | false =>
    have HZ := Lib.hid (show res = false from by rw [HL.out]; simp)
    go_wp2_with fail
    go_ret
    exact ⟨by rw [HZ.out]; first | rfl | simp, by first | exact HB2.out | (rw [← HG.out]; exact HB2.out)⟩
  | true =>
    go_wp2_with (refine wpList_load_midM (by rfl) 46 (.tmp 2) rfl g 0 rfl cs _ HX2.out.range Tryz.underlying46 rfl (by rw [info_D, H1.out.1]) ?_)
    refine (HC2.out _).mono ?_
    rintro e w3 ⟨rfl, hb⟩
    have HB3 := Lib.hid (HB2.out.trans (hb.mono HB2.out.size))
    have HX3 := Lib.hid (HX2.out.below hb HX2.out.lt)
    clear hb HB2 HX2
    cases b2 with
    | false =>
      have HZ := Lib.hid (show res = false from by rw [HL.out]; simp)
      go_wp2_with fail
      go_ret
      exact ⟨by rw [HZ.out]; first | rfl | simp, by first | exact HB3.out | (rw [← HG.out]; exact HB3.out)⟩
    | true =>
      go_wp2_with (refine wpList_load_midM (by rfl) 46 (.tmp 2) rfl g 0 rfl cs _ HX3.out.range Tryz.underlying46 rfl (by rw [info_D, H1.out.1]) ?_)
      refine (HC3.out _ HB3.out).mono ?_
      rintro e w4 ⟨rfl, hb⟩
      have HB4 := Lib.hid (HB3.out.trans (hb.mono HB3.out.size))
      have HX4 := Lib.hid (HX3.out.below hb HX3.out.lt)
      clear hb HB3 HX3
      cases b3 with
      | false =>
        have HZ := Lib.hid (show res = false from by rw [HL.out]; simp)
        go_wp2_with fail
        go_ret
        exact ⟨by rw [HZ.out]; first | rfl | simp, by first | exact HB4.out | (rw [← HG.out]; exact HB4.out)⟩
      | true =>
        go_wp2_with (refine wpList_load_midM (by rfl) 46 (.tmp 2) rfl g 0 rfl cs _ HX4.out.range Tryz.underlying46 rfl (by rw [info_D, H1.out.1]) ?_)
        refine (HC4.out _).mono ?_
        rintro e w5 ⟨rfl, hb⟩
        have HB5 := Lib.hid (HB4.out.trans (hb.mono HB4.out.size))
        have HX5 := Lib.hid (HX4.out.below hb HX4.out.lt)
        clear hb HB4 HX4
        cases b4 with
        | false =>
          have HZ := Lib.hid (show res = false from by rw [HL.out]; simp)
          go_wp2_with fail
          go_ret
          exact ⟨by rw [HZ.out]; first | rfl | simp, by first | exact HB5.out | (rw [← HG.out]; exact HB5.out)⟩
        | true =>
          go_wp2_with (refine wpList_load_midM (by rfl) 46 (.tmp 2) rfl g 0 rfl cs _ HX5.out.range Tryz.underlying46 rfl (by rw [info_D, H1.out.1]) ?_)
          refine (HC5.out _ HB5.out).mono ?_
          rintro e w6 ⟨rfl, hb⟩
          have HB6 := Lib.hid (HB5.out.trans (hb.mono HB5.out.size))
          have HX6 := Lib.hid (HX5.out.below hb HX5.out.lt)
          clear hb HB5 HX5
          cases b5 with
          | false =>
            have HZ := Lib.hid (show res = false from by rw [HL.out]; simp)
            go_wp2_with fail
            go_ret
            exact ⟨by rw [HZ.out]; first | rfl | simp, by first | exact HB6.out | (rw [← HG.out]; exact HB6.out)⟩
          | true =>
            go_wp2_with (refine wpList_load_midM (by rfl) 46 (.tmp 2) rfl g 0 rfl cs _ HX6.out.range Tryz.underlying46 rfl (by rw [info_D, H1.out.1]) ?_)
            refine (HC6.out _ HB6.out).mono ?_
            rintro e w7 ⟨rfl, hb⟩
            have HB7 := Lib.hid (HB6.out.trans (hb.mono HB6.out.size))
            have HX7 := Lib.hid (HX6.out.below hb HX6.out.lt)
            clear hb HB6 HX6
            cases b6 with
            | false =>
              have HZ := Lib.hid (show res = false from by rw [HL.out]; simp)
              go_wp2_with fail
              go_ret
              exact ⟨by rw [HZ.out]; first | rfl | simp, by first | exact HB7.out | (rw [← HG.out]; exact HB7.out)⟩
            | true =>
              go_wp2_with (refine wpList_load_midM (by rfl) 46 (.tmp 2) rfl g 0 rfl cs _ HX7.out.range Tryz.underlying46 rfl (by rw [info_D, H1.out.1]) ?_)
              refine (HC7.out _ HB7.out (by first | rfl | trivial)).mono ?_
              rintro e w8 ⟨rfl, hb⟩
              have HB8 := Lib.hid (HB7.out.trans (hb.mono HB7.out.size))
              have HX8 := Lib.hid (HX7.out.below hb HX7.out.lt)
              clear hb HB7 HX7
              cases b7 with
              | false =>
                have HZ := Lib.hid (show res = false from by rw [HL.out]; simp)
                go_wp2_with fail
                go_ret
                exact ⟨by rw [HZ.out]; first | rfl | simp, by first | exact HB8.out | (rw [← HG.out]; exact HB8.out)⟩
              | true =>
                go_wp2_with (refine wpList_load_midM (by rfl) 46 (.tmp 2) rfl g 0 rfl cs _ HX8.out.range Tryz.underlying46 rfl (by rw [info_D, H1.out.1]) ?_)
                refine (HC8.out _).mono ?_
                rintro e w9 ⟨rfl, hb⟩
                have HB9 := Lib.hid (HB8.out.trans (hb.mono HB8.out.size))
                have HX9 := Lib.hid (HX8.out.below hb HX8.out.lt)
                clear hb HB8 HX8
                cases b8 with
                | false =>
                  have HZ := Lib.hid (show res = false from by rw [HL.out]; simp)
                  go_wp2_with fail
                  go_ret
                  exact ⟨by rw [HZ.out]; first | rfl | simp, by first | exact HB9.out | (rw [← HG.out]; exact HB9.out)⟩
                | true =>
                  have HZ := Lib.hid (show res = true from by rw [HL.out]; simp)
                  go_wp2_with fail
                  go_ret
                  exact ⟨by rw [HZ.out]; first | rfl | simp, by first | exact HB9.out | (rw [← HG.out]; exact HB9.out)⟩
theorem index_Dr {B : Nat} {W : World} {d : TB} (h : TBIn B W d) {i : Nat} (hi : i < d.n) : ∃ gx ox : Nat, (∀ w, (Instr.indexAt 22 (.slice d.a d.n d.cap) (.int .i64 (i : Nat))).run Tryz.prog w = .ok (.pointer (some ⟨gx, ox, none⟩)) w) ∧ gx < B ∧ ∀ w : World, w.heap[gx]? = W.heap[gx]? → w.rangeAt gx ox (d.f i).cells := dRow_read h.1 hi
def RelIxM (w : World) (n : Nat) (p : Nat → Bool) (iv : Value) (wr : World) : Prop := ∃ i : Nat, i ≤ n ∧ iv = .int .i64 (i : Nat) ∧ (∀ j, j < i → p j = false) ∧ Below w.heap.size w wr
theorem relIxM_next {p : Nat → Bool} {i : Nat} (h : ∀ j, j < i → p j = false) (hi : p i = false) : ∀ j, j < i + 1 → p j = false := fun j hj => by
  rcases Nat.lt_or_ge j i with h2 | h2
  · exact h j h2
  · obtain rfl : j = i := by omega
    exact hi
set_option maxHeartbeats 8000000 in
theorem idxD_ok (B : Nat) (w : World) (d : TB) (fn : FuncId) (first lb : Array Value) (p : Nat → Bool) (hen0 : Enters Tryz.prog fn)
    (hB : B ≤ w.heap.size) (hd : TBIn B w d) (hp : PredN w fn first lb d.n (fun i => .agg (d.f i).cells.toArray) p) :
    Calls Tryz.prog 138 #[.slice d.a d.n d.cap, .func (.func fn) first lb] w fun e w' => (∃ z : Int, e = .returned (.int .i64 z) ∧ (decide (0 ≤ z) = anyN p d.n)) ∧ Below w.heap.size w w' := by
  have hen : ∀ (args : Array Value) (w : World), (callFunc fn args).run Tryz.prog w = .ok (.enter fn args) w := hen0
  have HROW := Lib.hid hd
  have HP := Lib.hid hp
  have HBB := Lib.hid hB
  have hn : d.n ≤ 9223372036854775807 := by have := hd.1.1; have := hd.1.2.1; omega
  have HB0 := Lib.hid (Below.refl w.heap.size w)
  have HIX := Lib.hid (fun i (hi : i < d.n) => index_Dr HROW.out hi)
  generalize d.n = n at *
  generalize d.a = a at *
  generalize d.cap = cap at *
  clear hp hB hd HROW
  go_enter Tryz.func138, Tryz.ntmps138
  go_wp2_with fail
  go_loopw [8] (fun iv wr => RelIxM w n p iv wr) (fun iv _ => n - (Lib.intOf iv).toNat)
  case atStart => exact ⟨0, Nat.zero_le _, rfl, fun j hj => absurd hj (Nat.not_lt_zero _), HB0.out⟩
  case round =>
    obtain ⟨i, hi, rfl, hall, hbel⟩ := hrel
    have HB := Lib.hid hbel
    have HA := Lib.hid hall
    have hsz := hbel.size
    clear hbel hall
    by_cases hlt : i < n
    · have q1 : decide ((i : Int) < (n : Int)) = true := decide_eq_true (by omega)
      have q1n : decide (i < n) = true := decide_eq_true hlt
      obtain ⟨gx, ox, hix, hgx, hrd⟩ := HIX.out i hlt
      have HR := Lib.hid (hrd wr (HB.out.block gx (by have := HBB.out; omega)))
      have HC := Lib.hid (show ∀ w', Below w.heap.size w w' → Calls Tryz.prog fn (first ++ #[.agg (d.f i).cells.toArray] ++ lb) w' fun e w'' => e = .returned (.bool (p i)) ∧ Below w'.heap.size w' w'' from HP.out i hlt)
      have H1 := Lib.hid (one_dcells (d.f i))
      generalize (d.f i).cells = cs at *
      clear hrd
      have q3 : IntKind.i64.wrap ((i : Int) + 1) = ((i + 1 : Nat) : Int) := wrap_succ hlt hn
      cases hpi : p i with
      | false =>
        have HN := Lib.hid (relIxM_next HA.out hpi)
        rw [hpi] at HC
        clear hpi
        go_wp2_with (refine wpList_load_mid rfl 46 (.tmp 14) rfl gx ox rfl cs _ HR.out Tryz.underlying46 rfl (by rw [info_D, H1.out.1]) ?_)
        refine (HC.out _ HB.out).mono ?_
        rintro e w1 ⟨rfl, hb⟩
        have HB1 := Lib.hid (HB.out.trans (hb.mono HB.out.size))
        clear hb
        go_wp2_with fail
        go_roundw
        case rel => exact ⟨i + 1, hlt, rfl, HN.out, HB1.out⟩
        case measure => simp only [Lib.intOf]; omega
      | true =>
        have HN := Lib.hid (anyN_yes hlt hpi)
        rw [hpi] at HC
        clear hpi
        go_wp2_with (refine wpList_load_mid rfl 46 (.tmp 14) rfl gx ox rfl cs _ HR.out Tryz.underlying46 rfl (by rw [info_D, H1.out.1]) ?_)
        refine (HC.out _ HB.out).mono ?_
        rintro e w1 ⟨rfl, hb⟩
        have HB1 := Lib.hid (HB.out.trans (hb.mono HB.out.size))
        clear hb
        go_wp2_with fail
        go_ret
        exact ⟨⟨_, rfl, by rw [HN.out]; exact decide_eq_true (by omega)⟩, HB1.out⟩
    · have q1 : decide ((i : Int) < (n : Int)) = false := decide_eq_false (by omega)
      have q1n : decide (i < n) = false := decide_eq_false hlt
      obtain rfl : i = n := by omega
      have HN := Lib.hid (anyN_no HA.out)
      go_wp2_with fail
      go_ret
      exact ⟨⟨_, rfl, by rw [HN.out]; rfl⟩, HB.out⟩
set_option maxHeartbeats 4000000 in
theorem contD_ok (B : Nat) (w : World) (d : TB) (fn : FuncId) (first lb : Array Value) (p : Nat → Bool) (hen0 : Enters Tryz.prog fn)
    (hB : B ≤ w.heap.size) (hd : TBIn B w d) (hp : PredN w fn first lb d.n (fun i => .agg (d.f i).cells.toArray) p) :
    Calls Tryz.prog 85 #[.slice d.a d.n d.cap, .func (.func fn) first lb] w fun e w' => e = .returned (.bool (anyN p d.n)) ∧ Below w.heap.size w w' := by
  have HC := Lib.hid (idxD_ok B w d fn first lb p hen0 hB hd hp)
  obtain ⟨b, hb⟩ : ∃ b, anyN p d.n = b := ⟨_, rfl⟩
  rw [hb] at HC ⊢
  clear hen0 hB hd hp hb
  go_enter Tryz.func85, Tryz.ntmps85
  go_wp2_with fail
  refine HC.out.mono ?_
  rintro e w1 ⟨⟨z, rfl, hz⟩, hb⟩
  have HB := Lib.hid hb
  clear hb HC
  go_wp2_with fail
  go_ret
  exact ⟨rfl, HB.out⟩
set_option maxHeartbeats 4000000 in
theorem right1_ok (B g : Nat) (w : World) (a : Option Addr) (n cap : Nat) (r : DT) (hr : DTIn B w r) (hB : B ≤ w.heap.size) (hs : r.set.n ≤ 1000) (hg : w.cell? ⟨g, 0, none⟩ = some (.slice a n cap)) :
    Calls Tryz.prog 86 #[.agg r.cells.toArray, .pointer (some ⟨g, 0, none⟩)] w fun e w' => e = .returned (.bool (!r.right n)) ∧ Below w.heap.size w w' := by
  have hx := Bx.new w r.cells.toArray 46
  have hb := (Below.refl w.heap.size w).alloc (Nat.le_refl _) (.cells r.cells.toArray 46)
  have HX := Lib.hid hx
  have HB := Lib.hid hb
  have c0 : (w.alloc (.cells r.cells.toArray 46)).cell? ⟨g, 0, none⟩ = some (.slice a n cap) := (World.cell?_of_block (w := w) (a := ⟨g, 0, none⟩) (Below.heap_alloc w _ g (World.block_lt_of_cell? w _ hg))).trans hg
  have H1 := Lib.hid (one_dcells r)
  have HC := Lib.hid (isRight_ok w.heap.size (w.alloc (.cells r.cells.toArray 46)) r n ((hr.below (Below.refl _ _) hB).below hb (Nat.le_refl _)) hb.size hs)
  generalize r.right n = z at *
  generalize r.cells = cs at *
  clear hx hb hg hr hB hs
  go_enter Tryz.func86, Tryz.ntmps86
  go_wp2_with (refine wpList_load_midM (by rfl) 46 (.tmp 2) rfl w.heap.size 0 rfl cs _ HX.out.range Tryz.underlying46 rfl (by rw [info_D, H1.out.1]) ?_)
  refine HC.out.mono ?_
  rintro e w1 ⟨rfl, h1⟩
  have HB1 := Lib.hid (HB.out.trans (h1.mono HB.out.size))
  clear h1
  go_wp2_with fail
  go_ret
  exact ⟨rfl, HB1.out⟩
theorem not_any {p : Nat → Bool} {n : Nat} : (!anyN (fun i => !p i) n) = allN p n := by
  unfold anyN
  rw [Bool.not_not]
  congr 1
  funext i
  rw [Bool.not_not]
set_option maxHeartbeats 4000000 in
theorem tRight_ok (B : Nat) (w : World) (d : TB) (hd : TBIn B w d) (hB : B ≤ w.heap.size) (hs : ∀ i, i < d.n → (d.f i).set.n ≤ 1000) :
    Calls Tryz.prog 49 #[.slice d.a d.n d.cap] w fun e w' => e = .returned (.bool d.right) ∧ Below w.heap.size w w' := by
  have hx := Bx.new w #[.slice d.a d.n d.cap] 22
  have hb := (Below.refl w.heap.size w).alloc (Nat.le_refl _) (.cells #[.slice d.a d.n d.cap] 22)
  have c0 := hx.cell 0 (v := .slice d.a d.n d.cap) rfl
  have HB := Lib.hid hb
  have HC := Lib.hid (contD_ok w.heap.size (w.alloc (.cells #[.slice d.a d.n d.cap] 22)) d 86 #[] #[.pointer (some ⟨w.heap.size, 0, none⟩)] (fun i => !(d.f i).right d.n)
    (enters_of Tryz.func86 (by kernel_rfl) rfl) hb.size ((hd.below (Below.refl _ _) hB).below hb (Nat.le_refl _)) (fun i hi W hW => right1_ok w.heap.size w.heap.size W d.a d.n d.cap (d.f i) (((hd.below (Below.refl _ _) hB).below (hb.trans (hW.mono hb.size)) (Nat.le_refl _)).2 i hi) (Nat.le_trans hb.size hW.size) (hs i hi) ((hx.below hW hx.lt).cell 0 rfl)))
  have HL := Lib.hid (show d.right = (decide (0 < d.n) && decide (d.n ≤ 4096) && !anyN (fun i => !(d.f i).right d.n) d.n) from by rw [not_any]; rfl)
  generalize anyN (fun i => !(d.f i).right d.n) d.n = z at *
  generalize d.right = res at *
  generalize d.a = a at *
  generalize d.n = n at *
  generalize d.cap = cap at *
  clear hx hb hd hB hs
  by_cases h0 : n = 0
  · subst h0
    have HZ := Lib.hid (show res = false from by rw [HL.out]; rfl)
    go_enter Tryz.func49, Tryz.ntmps49
    go_wp2_with fail
    go_ret
    exact ⟨by rw [HZ.out]; rfl, HB.out⟩
  · have q0 : ((n : Int) == 0) = false := beq_eq_false_iff_ne.2 (by omega)
    have q0n : (n == 0) = false := beq_eq_false_iff_ne.2 h0
    by_cases h1 : 4096 < n
    · have q1 : decide ((4096 : Int) < (n : Int)) = true := decide_eq_true (by omega)
      have q1n : decide (4096 < n) = true := decide_eq_true h1
      have HZ := Lib.hid (show res = false from by rw [HL.out, decide_eq_false (show ¬ n ≤ 4096 by omega)]; simp)
      clear h0 h1
      go_enter Tryz.func49, Tryz.ntmps49
      go_wp2_with fail
      go_ret
      exact ⟨by rw [HZ.out]; rfl, HB.out⟩
    · have q1 : decide ((4096 : Int) < (n : Int)) = false := decide_eq_false (by omega)
      have q1n : decide (4096 < n) = false := decide_eq_false h1
      have HZ := Lib.hid (show res = !z from by rw [HL.out, decide_eq_true (show 0 < n by omega), decide_eq_true (show n ≤ 4096 by omega)]; rfl)
      clear h0 h1
      go_enter Tryz.func49, Tryz.ntmps49
      go_wp2_with fail
      refine HC.out.mono ?_
      rintro e w1 ⟨rfl, hb⟩
      have HB1 := Lib.hid (HB.out.trans (hb.mono HB.out.size))
      clear hb
      go_wp2_with fail
      go_ret
      exact ⟨by rw [HZ.out]; rfl, HB1.out⟩
end Go.Proofs.YtjhecpkdpomkmaaGreat
