/-
  A bundle of texts, one behind the other: MbO, MbL7.
-/
import Derived.Test.YtjhecpkdpomkmaaGreatQB
import Derived.Test.YtjhecpkdpomkmaaGreatQH
import Derived.OpenShut
namespace Go.Proofs.YtjhecpkdpomkmaaGreat
open Go.RowKit
set_option linter.unusedVariables false
set_option linter.unusedSimpArgs false
set_option maxRecDepth 100000

theorem kRg : Tryz.prog.cellsOf 66 = 2 := by kernel_rfl
theorem kRgs : Tryz.prog.cellsOf 42 = 1 := by kernel_rfl
theorem kInts : Tryz.prog.cellsOf 44 = 1 := by kernel_rfl
theorem kFld : Tryz.prog.cellsOf 48 = 4 := by kernel_rfl
theorem kFlds : Tryz.prog.cellsOf 43 = 1 := by kernel_rfl
theorem kDsc : Tryz.prog.cellsOf 46 = 12 := by kernel_rfl
section
variable {H : Type} {enc : TypeId × Value → H} {W : World}
theorem open_rg15 {fuel : Nat} {cs : List Value} {x : DataW H × List MemPlace} (h : DataW.trod enc Tryz.prog W 0 (fun _ => true) true fuel 66 cs = some x) (hl : Light 66 x.1) : ∃ r : Rg, cs = rgc r ∧ I64 r.1 ∧ I64 r.2 := by
  obtain ⟨n, rfl, hlen, hf⟩ := open_struct Tryz.underlying66 h hl
  rw [kRg] at hlen
  match cs, hlen with
  | [c0, c1], _ =>
    obtain ⟨y0, f0, _⟩ := hf 0 _ rfl 3 0 rfl rfl
    obtain ⟨y1, f1, _⟩ := hf 1 _ rfl 3 1 rfl rfl
    simp only [kInt, List.drop_zero, List.drop_succ_cons, List.take_succ_cons, List.take_zero] at f0 f1
    obtain ⟨a0, e0, w0⟩ := open_i f0
    obtain ⟨a1, e1, w1⟩ := open_i f1
    simp only [List.cons.injEq, and_true] at e0 e1
    subst e0; subst e1
    exact ⟨(a0, a1), rfl, w0, w1⟩
theorem open_rs15 {fuel : Nat} {cs : List Value} {x : DataW H × List MemPlace} (h : DataW.trod enc Tryz.prog W 0 (fun _ => true) true fuel 42 cs = some x) (hl : Light 42 x.1) : ∃ s : RS, cs = [s.v] ∧ RSIn W.heap.size W s := by
  obtain ⟨a, n, cap, f, rfl, h1, h2⟩ := open_row (W := W) ((0, 0) : Rg) rgc (fun r => I64 r.1 ∧ I64 r.2) 2 Tryz.underlying42 kRg (by decide) (by decide +kernel) h hl (fun n cs' x' _ h' hl' => open_rg15 h' hl')
  exact ⟨⟨a, n, cap, f⟩, rfl, h1, h2⟩
theorem open_nl {fuel : Nat} {cs : List Value} {x : DataW H × List MemPlace} (h : DataW.trod enc Tryz.prog W 0 (fun _ => true) true fuel 44 cs = some x) (hl : Light 44 x.1) : ∃ s : NL, cs = [s.v] ∧ NLIn W.heap.size W s := by
  obtain ⟨a, n, cap, f, rfl, h1, h2⟩ := open_row (W := W) (0 : Int) (fun z => [.int .i64 z]) I64 1 Tryz.underlying44 kInt (by decide) (by decide +kernel) h hl (fun n cs' x' _ h' hl' => open_i h')
  exact ⟨⟨a, n, cap, f⟩, rfl, h1, h2⟩
theorem open_fld {fuel : Nat} {cs : List Value} {x : DataW H × List MemPlace} (h : DataW.trod enc Tryz.prog W 0 (fun _ => true) true fuel 48 cs = some x) (hl : Light 48 x.1) : ∃ p : FT, cs = p.cells ∧ FTIn W.heap.size W p := by
  obtain ⟨n, rfl, hlen, hf⟩ := open_struct Tryz.underlying48 h hl
  rw [kFld] at hlen
  match cs, hlen with
  | [c0, c1, c2, c3], _ =>
    obtain ⟨y0, f0, l0⟩ := hf 0 _ rfl 9 0 rfl rfl
    obtain ⟨y1, f1, _⟩ := hf 1 _ rfl 3 1 rfl rfl
    obtain ⟨y2, f2, _⟩ := hf 2 _ rfl 4 2 rfl rfl
    obtain ⟨y3, f3, l3⟩ := hf 3 _ rfl 24 3 rfl rfl
    simp only [kInt, kStr, kBool, kVals, List.drop_zero, List.drop_succ_cons, List.take_succ_cons, List.take_zero] at f0 f1 f2 f3
    obtain ⟨a0, e0, w0⟩ := open_str Tryz.underlying9 f0 l0
    obtain ⟨a1, e1, w1⟩ := open_i f1
    obtain ⟨a2, e2⟩ := open_b f2
    obtain ⟨a3, e3, w3⟩ := open_dl f3 l3
    simp only [List.cons.injEq, and_true] at e0 e1 e2 e3
    subst e0; subst e1; subst e2; subst e3
    exact ⟨⟨a0, a1, a2, a3⟩, rfl, w0, w1, w3⟩
theorem open_fl {fuel : Nat} {cs : List Value} {x : DataW H × List MemPlace} (h : DataW.trod enc Tryz.prog W 0 (fun _ => true) true fuel 43 cs = some x) (hl : Light 43 x.1) : ∃ s : FL, cs = [s.v] ∧ FLIn W.heap.size W s := by
  obtain ⟨a, n, cap, f, rfl, h1, h2⟩ := open_row (W := W) (⟨⟨#[]⟩, 0, false, ⟨none, 0, 0, fun _ => .nil⟩⟩ : FT) FT.cells (fun p => FTIn W.heap.size W p) 4 Tryz.underlying43 kFld (by decide) (by decide +kernel) h hl (fun n cs' x' _ h' hl' => open_fld h' hl')
  exact ⟨⟨a, n, cap, f⟩, rfl, h1, h2⟩
theorem open_dsc {fuel : Nat} {cs : List Value} {x : DataW H × List MemPlace} (h : DataW.trod enc Tryz.prog W 0 (fun _ => true) true fuel 46 cs = some x) (hl : Light 46 x.1) : ∃ r : DT, cs = r.cells ∧ DTIn W.heap.size W r := by
  obtain ⟨n, rfl, hlen, hf⟩ := open_struct Tryz.underlying46 h hl
  rw [kDsc] at hlen
  match cs, hlen with
  | [c0, c1, c2, c3, c4, c5, c6, c7, c8, c9, c10, c11], _ =>
    obtain ⟨y0, f0, _⟩ := hf 0 _ rfl 3 0 rfl rfl
    obtain ⟨y1, f1, _⟩ := hf 1 _ rfl 4 1 rfl rfl
    obtain ⟨y2, f2, l2⟩ := hf 2 _ rfl 42 2 rfl rfl
    obtain ⟨y3, f3, _⟩ := hf 3 _ rfl 3 3 rfl rfl
    obtain ⟨y4, f4, _⟩ := hf 4 _ rfl 3 4 rfl rfl
    obtain ⟨y5, f5, l5⟩ := hf 5 _ rfl 9 5 rfl rfl
    obtain ⟨y6, f6, l6⟩ := hf 6 _ rfl 23 6 rfl rfl
    obtain ⟨y7, f7, l7⟩ := hf 7 _ rfl 23 7 rfl rfl
    obtain ⟨y8, f8, l8⟩ := hf 8 _ rfl 43 8 rfl rfl
    obtain ⟨y9, f9, l9⟩ := hf 9 _ rfl 43 9 rfl rfl
    obtain ⟨y10, f10, l10⟩ := hf 10 _ rfl 44 10 rfl rfl
    obtain ⟨y11, f11, _⟩ := hf 11 _ rfl 3 11 rfl rfl
    simp only [kInt, kStr, kBool, kStrs, kRgs, kFlds, kInts, List.drop_zero, List.drop_succ_cons, List.take_succ_cons, List.take_zero] at f0 f1 f2 f3 f4 f5 f6 f7 f8 f9 f10 f11
    obtain ⟨a0, e0, w0⟩ := open_i f0
    obtain ⟨a1, e1⟩ := open_b f1
    obtain ⟨a2, e2, w2⟩ := open_rs15 f2 l2
    obtain ⟨a3, e3, w3⟩ := open_i f3
    obtain ⟨a4, e4, w4⟩ := open_i f4
    obtain ⟨a5, e5, w5⟩ := open_str Tryz.underlying9 f5 l5
    obtain ⟨a6, e6, w6⟩ := open_sl f6 l6
    obtain ⟨a7, e7, w7⟩ := open_sl f7 l7
    obtain ⟨a8, e8, w8⟩ := open_fl f8 l8
    obtain ⟨a9, e9, w9⟩ := open_fl f9 l9
    obtain ⟨a10, e10, w10⟩ := open_nl f10 l10
    obtain ⟨a11, e11, w11⟩ := open_i f11
    simp only [List.cons.injEq, and_true] at e0 e1 e2 e3 e4 e5 e6 e7 e8 e9 e10 e11
    subst e0; subst e1; subst e2; subst e3; subst e4; subst e5; subst e6; subst e7; subst e8; subst e9; subst e10; subst e11
    exact ⟨⟨a0, a1, a2, a3, a4, a5, a6, a7, a8, a9, a10, a11⟩, rfl, by refine ⟨?_, w2, w6, w7, w8, w9, w10⟩; exact ⟨w0, w3, w4, w11, w5⟩⟩
theorem open_tb {fuel : Nat} {cs : List Value} {x : DataW H × List MemPlace} (h : DataW.trod enc Tryz.prog W 0 (fun _ => true) true fuel 22 cs = some x) (hl : Light 22 x.1) : ∃ s : TB, cs = [s.v] ∧ TBIn W.heap.size W s := by
  obtain ⟨a, n, cap, f, rfl, h1, h2⟩ := open_row (W := W) (⟨0, false, ⟨none, 0, 0, fun _ => (0, 0)⟩, 0, 0, ⟨#[]⟩, ⟨none, 0, 0, fun _ => ⟨#[]⟩⟩, ⟨none, 0, 0, fun _ => ⟨#[]⟩⟩, ⟨none, 0, 0, fun _ => ⟨⟨#[]⟩, 0, false, ⟨none, 0, 0, fun _ => .nil⟩⟩⟩, ⟨none, 0, 0, fun _ => ⟨⟨#[]⟩, 0, false, ⟨none, 0, 0, fun _ => .nil⟩⟩⟩, ⟨none, 0, 0, fun _ => 0⟩, 0⟩ : DT) DT.cells (fun r => DTIn W.heap.size W r) 12 Tryz.underlying22 kDsc (by decide) (by decide +kernel) h hl (fun n cs' x' _ h' hl' => open_dsc h' hl')
  exact ⟨⟨a, n, cap, f⟩, rfl, h1, h2⟩
end
end Go.Proofs.YtjhecpkdpomkmaaGreat

namespace Go.Proofs.YtjhecpkdpomkmaaGreat
open Go.RowKit Go.ChangeShapes Go.WideShapes Go.ChangeAt
set_option linter.unusedVariables false
set_option linter.unusedSimpArgs false
set_option maxRecDepth 100000

theorem open_table {H : Type} {enc : TypeId × Value → H} {W : World} {a : Option Addr} {len cap : Nat} {d : DataW H} {p : List MemPlace}
    (h : DataW.Trod enc Tryz.prog W 0 (fun _ => true) true 22 (.slice a len cap) d p) (hl : Light 22 d) : ∃ f : Nat → DT, TBIn W.heap.size W ⟨a, len, cap, f⟩ := by
  obtain ⟨fuel, hf⟩ := h
  obtain ⟨⟨a', n, cap', f⟩, hcs, h1⟩ := open_tb hf hl
  simp [Value.cells, TB.v] at hcs
  obtain ⟨rfl, rfl, rfl⟩ := hcs
  exact ⟨f, h1⟩
end Go.Proofs.YtjhecpkdpomkmaaGreat
