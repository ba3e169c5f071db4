/-
  Literals of octets.
-/
import Derived.Test.YtbpfggkpfaobhaaGreatM4
namespace Go.Proofs.YtbpfggkpfaobhaaGreat
open Go.RowKit
set_option linter.unusedVariables false
set_option linter.unusedSimpArgs false
set_option maxRecDepth 100000

/-- a literal of octets -/
theorem lit_sl (w : World) (l : List Nat) (hl : ∀ i, l.getD i 0 < 256) (cs : Array Value) (hc : (u8s l).toArray = cs) (n : Nat) (hn : n = l.length) : SlAt (w.alloc (.cells cs 5)) (.slice (some ⟨w.heap.size, 0, none⟩) n n) l := by
  subst hc
  exact sl_of_row (heap_alloc_new _ _) hl hn
theorem lit_below {w0 w : World} (h : Below w0.heap.size w0 w) (o : Obj) : Below w0.heap.size w0 (w.alloc o) := h.alloc h.size o
theorem lt256 {l : List Nat} (h : l.all (· < 256) = true) (i : Nat) : l.getD i 0 < 256 := getD_lt (fun x hx => by simpa using List.all_eq_true.1 h x hx) i
end Go.Proofs.YtbpfggkpfaobhaaGreat
