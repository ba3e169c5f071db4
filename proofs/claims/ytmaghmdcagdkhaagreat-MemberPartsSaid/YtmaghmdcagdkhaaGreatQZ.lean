/-
  A bundle of texts, one behind the other: MbLA.
-/
import Derived.Test.YtmaghmdcagdkhaaGreatQX
import Derived.Deep.RegionLaw
/-
  Law 15: what MemberParts lacks: a row with one element left out.
-/
namespace Go.Proofs.YtmaghmdcagdkhaaGreat
open Go.RowKit
set_option linter.unusedVariables false
set_option linter.unusedSimpArgs false
set_option maxRecDepth 100000

theorem and_65535 (n : Int) : bits .and .i64 n 65535 = n % 65536 := by
  have h7 : (BitVec.ofInt 64 65535).toNat = 2 ^ 16 - 1 := by decide
  have key : (BitVec.ofInt 64 n &&& BitVec.ofInt 64 65535).toNat = (n % ((2 ^ 64 : Nat) : Int)).toNat % 2 ^ 16 := by
    rw [BitVec.toNat_and, BitVec.toNat_ofInt, h7, Nat.and_two_pow_sub_one_eq_mod]
  show IntKind.i64.wrap ((BitVec.ofInt 64 n &&& BitVec.ofInt 64 65535).toNat : Nat) = n % 65536
  rw [key, IntKind.wrap_i64]
  omega
theorem strs_to (g o n cap h : Nat) (hn : h ≤ n) (hc : n ≤ cap) (w : World) : (Instr.slice 23 (.slice (some ⟨g, o, none⟩) n cap) none (some (.int .i64 (h : Nat))) none).run Tryz.prog w = .ok (.slice (some ⟨g, o, none⟩) h cap) w := by
  have he : Tryz.prog.elem 23 = 9 := by kernel_rfl
  rw [run_slice_h (ht := by rw [he]; exact Tryz.underlying23) (h0 := by omega) (h2 := by omega), he, Tryz.sizeOf9]
  simp [Result.andThen, sliced, Addr.add_mid]
theorem strs_from (g o n cap h : Nat) (hn : h ≤ n) (hc : n ≤ cap) (w : World) : (Instr.slice 23 (.slice (some ⟨g, o, none⟩) n cap) (some (.int .i64 (h : Nat))) none none).run Tryz.prog w = .ok (.slice (some ⟨g, if cap = h then o else o + h * 1, none⟩) (n - h) (cap - h)) w := by
  have he : Tryz.prog.elem 23 = 9 := by kernel_rfl
  rw [run_slice_l (ht := by rw [he]; exact Tryz.underlying23) (h0 := by omega) (h1 := by omega), he, Tryz.sizeOf9]
  by_cases hx : cap = h <;> simp [Result.andThen, sliced, Addr.add_mid, hx]
theorem vals_to (g o n cap h : Nat) (hn : h ≤ n) (hc : n ≤ cap) (w : World) : (Instr.slice 24 (.slice (some ⟨g, o, none⟩) n cap) none (some (.int .i64 (h : Nat))) none).run Tryz.prog w = .ok (.slice (some ⟨g, o, none⟩) h cap) w := by
  have he : Tryz.prog.elem 24 = 26 := by kernel_rfl
  rw [run_slice_h (ht := by rw [he]; exact Tryz.underlying24) (h0 := by omega) (h2 := by omega), he, Tryz.sizeOf26]
  simp [Result.andThen, sliced, Addr.add_mid]
theorem vals_from (g o n cap h : Nat) (hn : h ≤ n) (hc : n ≤ cap) (w : World) : (Instr.slice 24 (.slice (some ⟨g, o, none⟩) n cap) (some (.int .i64 (h : Nat))) none none).run Tryz.prog w = .ok (.slice (some ⟨g, if cap = h then o else o + h * 5, none⟩) (n - h) (cap - h)) w := by
  have he : Tryz.prog.elem 24 = 26 := by kernel_rfl
  rw [run_slice_l (ht := by rw [he]; exact Tryz.underlying24) (h0 := by omega) (h1 := by omega), he, Tryz.sizeOf26]
  by_cases hx : cap = h <;> simp [Result.andThen, sliced, Addr.add_mid, hx]
/-- the first i of a row, and those behind the first h -/
theorem row_to {B K n cap i g o : Nat} {W : World} {f : Nat → List Value} (h : RowAt B W (some ⟨g, o, none⟩) n cap K f) (hi : i ≤ n) : RowAt B W (some ⟨g, o, none⟩) i cap K f :=
  ⟨by have := h.1; omega, by have := h.2.1; omega, fun h => (by cases h), fun h0 => by
    obtain ⟨g2, o2, ha, hg, hc⟩ := h.2.2.2 (by omega)
    exact ⟨g2, o2, ha, hg, fun x hx => hc x (by omega)⟩⟩
theorem row_from {B K n cap i g o : Nat} {W : World} {f : Nat → List Value} (h : RowAt B W (some ⟨g, o, none⟩) n cap K f) (hi : i ≤ n) : RowAt B W (some ⟨g, if cap = i then o else o + i * K, none⟩) (n - i) (cap - i) K (fun x => f (i + x)) :=
  ⟨by have := h.1; omega, by have := h.2.1; omega, fun h => (by cases h), fun h0 => by
    obtain ⟨g2, o2, ha, hg, hc⟩ := h.2.2.2 (by omega)
    have hcap := h.1
    simp only [Option.some.injEq, Addr.mk.injEq, and_true] at ha
    obtain ⟨rfl, rfl⟩ := ha
    refine ⟨g, o + i * K, by rw [if_neg (by omega)], hg, fun x hx j u hj => ?_⟩
    have := hc (i + x) (by omega) j u hj
    rwa [Nat.add_mul, ← Nat.add_assoc] at this⟩
/-- a row of one's own, of what a row has without its i-th element -/
theorem own_without {A K i r m : Nat} {W : World} {T : TypeId} {v : Value} {f : Nat → List Value} (h : W.ownsRow A T K v (0 + i + r) ([] ++ flatC f i ++ flatC (fun x => f (i + 1 + x)) r)) (hm : i + r = m) (hl : ∀ x, x < m + 1 → (f x).length = K) (hk : m ≤ 140737488355328) :
    ∃ a cap, v = .slice a m cap ∧ RowAt W.heap.size W a m cap K (fun x => f (shift i x)) ∧ rowP (A ≤ ·) a m := by
  have e : [] ++ flatC f i ++ flatC (fun x => f (i + 1 + x)) r = flatC (fun x => f (shift i x)) m := by
    rw [List.nil_append, flatC_add, hm]
    refine flatC_congr fun x hx => ?_
    unfold shift
    split
    · rfl
    · rw [show i + 1 + (x - i) = x + 1 by omega]
  rw [e, show 0 + i + r = m by omega] at h
  exact own_rowC h hk (fun x hx => hl _ (by unfold shift; split <;> omega))
/-- where the copy's field has become a row without one element -/
def CutA (wE : World) (bD : Nat) (c1 : Value → Array Value) (mm K : Nat) (f : Nat → List Value) (wx : World) : Prop :=
  (Below bD wE wx ∧ ∀ q, q < wE.heap.size → q ≠ bD → wx.heap[q]? = wE.heap[q]?) ∧
  ∃ an cn, Bx wx bD (c1 (.slice an mm cn)) 26 ∧ RowAt wx.heap.size wx an mm cn K f ∧ rowP (wE.heap.size ≤ ·) an mm
theorem cutA_mk {wE w5 : World} {bD j mm K cn : Nat} {an : Option Addr} {c9 : Array Value} {c1 : Value → Array Value} {f : Nat → List Value} (h9 : Bx wE bD c9 26) (hb : Below wE.heap.size wE w5)
    (hrow : RowAt w5.heap.size w5 an mm cn K f) (hrp : rowP (wE.heap.size ≤ ·) an mm) (hc : c9.setIfInBounds j (.slice an mm cn) = c1 (.slice an mm cn)) :
    CutA wE bD c1 mm K f (w5.setCell ⟨bD, j, none⟩ (.slice an mm cn)) := by
  have hlt := h9.lt
  refine ⟨⟨below_fieldM (hb.mono (by omega)) (Nat.le_refl bD), fun q hq hne => (heap_fieldM hne).trans (hb.block q hq)⟩, an, cn, ?_, ?_, hrp⟩
  · rw [← hc]
    exact bx_fieldM (h9.below hb hlt) j _
  · exact hrow.frame (P := (wE.heap.size ≤ ·)) hrp (fun q _ hp => heap_fieldM (by have h : wE.heap.size ≤ q := hp; omega)) (by simp)
def RelMu (w : World) (r : DT) (s : ByteArray) (pn : Nat) (mv iv : Value) (wr : World) : Prop := ∃ j : Nat, j ≤ pn ∧ iv = .int .i64 (j : Nat) ∧ mv = .bool (mustN r s j) ∧ Below w.heap.size w wr
theorem info_F4 : (Tryz.prog.info? 45).map (·.size) = some 4 := by kernel_rfl
theorem mustN_succ (r : DT) (s : ByteArray) (j : Nat) : mustN r s (j + 1) = (mustN r s j || (sEq (r.pa.f j).name s && (!(r.pa.f j).opt && decide ((r.pa.f j).d.n = 0)))) := by
  unfold mustN anyN
  simp [allN, Bool.not_and]
end Go.Proofs.YtmaghmdcagdkhaaGreat
