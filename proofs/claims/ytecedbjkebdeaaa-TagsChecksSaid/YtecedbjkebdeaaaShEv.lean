/-
  Package shape: 'every' at each element type, over whatever function tells of an element; rows' readers.
-/
import Derived.Test.YtecedbjkebdeaaaShL
namespace Go.Proofs.Ytecedbjkebdeaaa
open Go.RowKit
set_option linter.unusedVariables false
set_option linter.unusedSimpArgs false
set_option maxRecDepth 100000

/-- a predicate in memory: in each world that keeps what lay in w, called with the i-th value it tells p i -/
def PredN (w : World) (fn : FuncId) (first cap : Array Value) (n : Nat) (v : Nat → Value) (p : Nat → Bool) : Prop :=
  ∀ i, i < n → ∀ w', Below w.heap.size w w' → Calls Try.prog fn (first ++ #[v i] ++ cap) w' fun e w'' => e = .returned (.bool (p i)) ∧ Below w'.heap.size w' w''
def RelEv (w : World) (n : Nat) (p : Nat → Bool) (iv : Value) (wr : World) : Prop := ∃ i : Nat, i ≤ n ∧ iv = .int .i64 (i : Nat) ∧ allN p i = true ∧ Below w.heap.size w wr
/-- a value in a row -/
theorem vRow_read {B : Nat} {W : World} {a : Option Addr} {n cap : Nat} {ch : Nat → VT} (h : RowAt B W a n cap 5 (fun i => (ch i).cells)) {i : Nat} (hi : i < n) (hc : VIn B W (ch i)) :
    ∃ gx ox kd m s na nn ncap nf a' n' cap' ch', ch i = .mk kd m s ⟨na, nn, ncap, nf⟩ a' n' cap' ch' ∧ (∀ w, (Instr.indexAt 40 (.slice a n cap) (.int .i64 (i : Nat))).run Try.prog w = .ok (.pointer (some ⟨gx, ox, none⟩)) w) ∧ gx < B ∧
      ∀ w : World, w.heap[gx]? = W.heap[gx]? → w.cell? ⟨gx, ox, none⟩ = some (.int .i64 kd) ∧ w.cell? ⟨gx, ox + 1, none⟩ = some (.int .i64 m) ∧ w.cell? ⟨gx, ox + 2, none⟩ = some (.string s) ∧ w.cell? ⟨gx, ox + 3, none⟩ = some (.slice na nn ncap) ∧ w.cell? ⟨gx, ox + 4, none⟩ = some (.slice a' n' cap') := by
  obtain ⟨gx, ox, h1, h2, h3⟩ := h.read 40 92 Try.underlying40 (by kernel_rfl) Try.sizeOf92 hi
  cases hch : ch i with
  | nil => rw [hch] at hc; exact hc.elim
  | mk kd m s nm a' n' cap' ch' =>
    obtain ⟨na, nn, ncap, nf⟩ := nm
    refine ⟨gx, ox, kd, m, s, na, nn, ncap, nf, a', n', cap', ch', rfl, h1, h2, fun w hw => ?_⟩
    have hx := h3 w hw
    rw [hch] at hx
    exact ⟨hx 0 _ rfl, hx 1 _ rfl, hx 2 _ rfl, hx 3 _ rfl, hx 4 _ rfl⟩
/-- a type in a row -/
theorem TIn.open {B : Nat} {W : World} {t : TT} (h : TIn B W t) : ∃ kd' tn' op' lo' hi' lw' hg' ca' cn' cc' cch' ext' fr' sa' sn' sc' sf' ma' mn' mc' mf' pa' pn' pc' pf' ptf' aa' an' ac' af' atf' ea' en' ec' etf', t = .mk kd' tn' (.mk op' lo' hi' lw' hg' ca' cn' cc' cch') ext' fr' ⟨sa', sn', sc', sf'⟩ ⟨ma', mn', mc', mf'⟩ ⟨pa', pn', pc', pf'⟩ ptf' ⟨aa', an', ac', af'⟩ atf' ea' en' ec' etf' := by
  cases t with
  | nil => exact h.elim
  | mk kd tn con ext fr nm mo pa pt ad at_ ea en ec et =>
    cases con with
    | nil => exact h.1.2.2.1.elim
    | mk op lo hi lw hg ca cn cc cch => exact ⟨_, _, _, _, _, _, _, _, _, _, _, _, _, _, _, _, _, _, _, _, _, _, _, _, _, _, _, _, _, _, _, _, _, _, _, rfl⟩
theorem one_tcells {B : Nat} {W : World} {t : TT} (h : TIn B W t) : t.cells.length = 15 ∧ ∀ v ∈ t.cells, v.oneCell' = true := by
  obtain ⟨kd', tn', op', lo', hi', lw', hg', ca', cn', cc', cch', ext', fr', sa', sn', sc', sf', ma', mn', mc', mf', pa', pn', pc', pf', ptf', aa', an', ac', af', atf', ea', en', ec', etf', rfl⟩ := h.open
  refine ⟨rfl, fun v hv => ?_⟩
  simp only [TT.cells, CT.cells, SL.v, PL.v, List.cons_append, List.nil_append, List.mem_cons, List.not_mem_nil, or_false] at hv
  rcases hv with rfl | rfl | rfl | rfl | rfl | rfl | rfl | rfl | rfl | rfl | rfl | rfl | rfl | rfl | rfl <;> rfl
/-- a part's value -/
def pval (p : PD) (t : TT) : Value := .agg (pcells p t).toArray
theorem one_pcells {B : Nat} {W : World} {p : PD} {t : TT} (h : TIn B W t) : (pcells p t).length = 18 ∧ ∀ v ∈ pcells p t, v.oneCell' = true := by
  obtain ⟨h1, h2⟩ := one_tcells h
  refine ⟨by simp [pcells, h1], fun v hv => ?_⟩
  simp only [pcells, List.mem_append, List.mem_cons, List.not_mem_nil, or_false] at hv
  rcases hv with (rfl | hv) | rfl | rfl
  · rfl
  · exact h2 v hv
  · rfl
  · rfl
theorem tRow_read {B : Nat} {W : World} {a : Option Addr} {n cap : Nat} {ch : Nat → TT} (h : RowAt B W a n cap 15 (fun i => (ch i).cells)) {i : Nat} (hi : i < n) :
    ∃ gx ox : Nat, (∀ w, (Instr.indexAt 33 (.slice a n cap) (.int .i64 (i : Nat))).run Try.prog w = .ok (.pointer (some ⟨gx, ox, none⟩)) w) ∧ gx < B ∧ ∀ w : World, w.heap[gx]? = W.heap[gx]? → w.rangeAt gx ox (ch i).cells :=
  h.read 33 35 Try.underlying33 (by kernel_rfl) Try.sizeOf35 hi
theorem pRow_read {B : Nat} {W : World} {a : Option Addr} {n cap : Nat} {pf : Nat → PD} {pt : Nat → TT} (h : RowAt B W a n cap 18 (fun i => pcells (pf i) (pt i))) {i : Nat} (hi : i < n) :
    ∃ gx ox : Nat, (∀ w, (Instr.indexAt 32 (.slice a n cap) (.int .i64 (i : Nat))).run Try.prog w = .ok (.pointer (some ⟨gx, ox, none⟩)) w) ∧ gx < B ∧ ∀ w : World, w.heap[gx]? = W.heap[gx]? → w.rangeAt gx ox (pcells (pf i) (pt i)) :=
  h.read 32 42 Try.underlying32 (by kernel_rfl) Try.sizeOf42 hi
theorem info_T : (Try.prog.info? 35).map (·.size) = some 15 := by kernel_rfl
theorem info_P : (Try.prog.info? 42).map (·.size) = some 18 := by kernel_rfl
end Go.Proofs.Ytecedbjkebdeaaa
