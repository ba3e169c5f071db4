/-
  Package token: where a sign ends.
-/
import Derived.Test.YthcodmcfkmochaaDoorTkH
namespace Go.Proofs.YthcodmcfkmochaaDoor
open Go.RowKit
set_option linter.unusedVariables false
set_option linter.unusedSimpArgs false
set_option maxRecDepth 100000

/-- the signs' texts -/
def sgB : List ByteArray := [⟨#[58, 58, 61]⟩, ⟨#[46, 46, 46]⟩, ⟨#[46, 46]⟩, ⟨#[123]⟩, ⟨#[125]⟩, ⟨#[40]⟩, ⟨#[41]⟩, ⟨#[91]⟩, ⟨#[93]⟩, ⟨#[44]⟩, ⟨#[59]⟩, ⟨#[124]⟩, ⟨#[94]⟩, ⟨#[61]⟩, ⟨#[45]⟩]
theorem sgB_codes : sgB.map cods = sgns := by decide
/-- the program's table of signs lies in w -/
def SgAt (w : World) : Prop := ∀ i, i < 15 → w.cell? ⟨0, i, none⟩ = some (.string (sgB.getD i ⟨#[]⟩))
theorem SgAt.lt {w : World} (h : SgAt w) : 0 < w.heap.size := World.block_lt_of_cell? w _ (h 0 (by decide))
theorem SgAt.below {w w' : World} (h : SgAt w) (hb : Below w.heap.size w w') : SgAt w' := fun i hi => (World.cell?_of_block (w := w) (a := ⟨0, i, none⟩) (hb.block 0 h.lt)).trans (h i hi)
theorem sg_index (w : World) (t e : TypeId) (n : Nat) (cs : Array Value) (j : Nat) (v : Value) (ht : Tryd.prog.underlying t = some (.array n e)) (hz : ∀ w, (sizeOf e).run Tryd.prog w = .ok 1 w) (ha : ∀ w, (isAgg e).run Tryd.prog w = .ok false w) (hj : j < n) (hv : cs[j]? = some v) :
    (Instr.index t (.agg cs) (.int .i64 (j : Nat))).run Tryd.prog w = .ok v w := by
  have h1 : (0 : Int) ≤ (j : Int) ∧ (j : Int) < (n : Int) := by omega
  simp [Instr.index, asIntOf, run_underlying ht, hz, Go.part, ha, h1, hv, hj]
theorem wpList_index {ops : Array Oper} {rest : List Oper} {op : Oper} {a : Act} {w : World} {Q : Exit → Act → World → Prop} (hgd : op.guard = none) (t : TypeId) (x i : Operand) (ho : op.op = .index t x i) (v : Value)
    (hrun : (Instr.index t (a.eval x) (a.eval i)).run Tryd.prog w = .ok v w) (hK : wpList Tryd.prog ops Q rest (a.put op.dst v) w) : wpList Tryd.prog ops Q (op :: rest) a w :=
  wpList_plain hgd fun K hK' => by
    unfold Oper.wp execOp
    simp only [ho, Sem.run_bind, hrun, Sem.run_pure, Result.andThen_ok]
    exact hK' _ _ hK
theorem isAgg_str (w : World) : (isAgg 9).run Tryd.prog w = .ok false w := run_isAgg_plain Tryd.underlying9 rfl w
theorem sizeOf_str (w : World) : (sizeOf 9).run Tryd.prog w = .ok 1 w := by kernel_rfl
theorem sg_at : ∀ j, j < 15 → ∃ g : ByteArray, (#[Value.string ⟨#[58, 58, 61]⟩, .string ⟨#[46, 46, 46]⟩, .string ⟨#[46, 46]⟩, .string ⟨#[123]⟩, .string ⟨#[125]⟩, .string ⟨#[40]⟩, .string ⟨#[41]⟩, .string ⟨#[91]⟩, .string ⟨#[93]⟩, .string ⟨#[44]⟩, .string ⟨#[59]⟩, .string ⟨#[124]⟩, .string ⟨#[94]⟩, .string ⟨#[61]⟩, .string ⟨#[45]⟩] : Array Value)[j]? = some (.string g) ∧ sgns.drop j = cods g :: sgns.drop (j + 1) ∧ g.size ≤ 3 := by
  intro j hj
  have h : j = 0 ∨ j = 1 ∨ j = 2 ∨ j = 3 ∨ j = 4 ∨ j = 5 ∨ j = 6 ∨ j = 7 ∨ j = 8 ∨ j = 9 ∨ j = 10 ∨ j = 11 ∨ j = 12 ∨ j = 13 ∨ j = 14 := by omega
  rcases h with rfl | rfl | rfl | rfl | rfl | rfl | rfl | rfl | rfl | rfl | rfl | rfl | rfl | rfl | rfl <;> exact ⟨_, rfl, by decide, by decide⟩
theorem sGo_hit {l : List Nat} {p : Nat} {g : List Nat} {r : List (List Nat)} (h : hasP l p g = true) : sGo l p (g :: r) = p + g.length := if_pos h
theorem sGo_miss {l : List Nat} {p : Nat} {g : List Nat} {r : List (List Nat)} (h : hasP l p g = false) : sGo l p (g :: r) = sGo l p r := if_neg (by rw [h]; decide)
set_option maxHeartbeats 4000000 in
theorem signEnd_ok (s : ByteArray) (p : Nat) (w : World) (hsg : SgAt w) (hp : p ≤ s.size) (hs : s.size ≤ 100000) :
    Calls Tryd.prog 32 #[.agg #[.string s, .int .i64 (p : Nat)]] w fun e w' => e = .returned (.int .i64 (sEnd (cods s) p : Nat)) ∧ Below w.heap.size w w' := by
  obtain ⟨hb0, hk⟩ := scbox w s p
  have HB0 := Lib.hid hb0
  have HK := Lib.hid hk
  have hsgW := hsg.below hb0
  have HH := Lib.hid (fun g w => has_ok s g p (by omega) w)
  obtain ⟨R, hR⟩ : ∃ R, sEnd (cods s) p = R := ⟨_, rfl⟩
  rw [hR]
  have HG0 := Lib.hid (show sGo (cods s) p (sgns.drop 0) = R from hR)
  generalize cods s = l at *
  have g0 := hsgW 0 (by decide)
  have g1 := hsgW 1 (by decide)
  have g2 := hsgW 2 (by decide)
  have g3 := hsgW 3 (by decide)
  have g4 := hsgW 4 (by decide)
  have g5 := hsgW 5 (by decide)
  have g6 := hsgW 6 (by decide)
  have g7 := hsgW 7 (by decide)
  have g8 := hsgW 8 (by decide)
  have g9 := hsgW 9 (by decide)
  have g10 := hsgW 10 (by decide)
  have g11 := hsgW 11 (by decide)
  have g12 := hsgW 12 (by decide)
  have g13 := hsgW 13 (by decide)
  have g14 := hsgW 14 (by decide)
  simp only [sgB, List.getD_cons_zero, List.getD_cons_succ] at g0 g1 g2 g3 g4 g5 g6 g7 g8 g9 g10 g11 g12 g13 g14
  clear hb0 hk hR hsg hsgW
  go_enter Tryd.func32, Tryd.ntmps32
  go_wp2_with fail
  clear g0 g1 g2 g3 g4 g5 g6 g7 g8 g9 g10 g11 g12 g13 g14
  generalize w.alloc (.cells #[.string s, .int .i64 (p : Nat)] 38) = W at *
  go_loopw [6] (fun iv wr => ∃ j : Nat, iv = .int .i64 j ∧ j ≤ 15 ∧ sGo l p (sgns.drop j) = R ∧ Below W.heap.size W wr) (fun iv _ => 15 - (intOf iv).toNat)
  case atStart => exact ⟨0, rfl, by decide, HG0.out, Below.refl _ _⟩
  case round =>
    clear HG0
    obtain ⟨j, rfl, hj, hgo, hb⟩ := hrel
    have HB := Lib.hid hb
    have HGO := Lib.hid hgo
    obtain ⟨k0, k1⟩ := HK.out wr hb
    clear hgo hb
    by_cases hlt : j < 15
    · have q1 : decide ((j : Int) < 15) = true := decide_eq_true (by omega)
      have q1n : decide (j < 15) = true := decide_eq_true hlt
      obtain ⟨g, hg1, hg2, hg3⟩ := sg_at j hlt
      have HHg := Lib.hid (fun w => HH.out g w)
      cases hb : hasP l p (cods g) with
      | true =>
        rw [hb] at HHg
        have HE := Lib.hid (show p + g.size = R by rw [← HGO.out, hg2, sGo_hit hb, cods_length])
        have HG1 := Lib.hid hg1
        clear hb hg1 hg2
        go_wp2_with (refine wpList_index rfl 52 (.tmp 5) (.tmp 6) rfl _ (sg_index _ 52 9 15 _ _ _ Tryd.underlying52 sizeOf_str isAgg_str hlt HG1.out) ?_)
        refine (HHg.out _).mono ?_
        rintro e w5 ⟨rfl, rfl⟩
        go_wp2_with fail
        go_ret
        rw [← HE.out]
        exact ⟨by go_num, HB0.out.trans (HB.out.mono HB0.out.size)⟩
      | false =>
        rw [hb] at HHg
        have HN := Lib.hid (show sGo l p (sgns.drop (j + 1)) = R by rw [← HGO.out, hg2, sGo_miss hb])
        have HG1 := Lib.hid hg1
        clear hb hg1 hg2
        go_wp2_with (refine wpList_index rfl 52 (.tmp 5) (.tmp 6) rfl _ (sg_index _ 52 9 15 _ _ _ Tryd.underlying52 sizeOf_str isAgg_str hlt HG1.out) ?_)
        refine (HHg.out _).mono ?_
        rintro e w5 ⟨rfl, rfl⟩
        go_wp2_with fail
        go_roundw
        case rel => exact ⟨j + 1, by go_num, by omega, HN.out, HB.out⟩
        case measure => simp [intOf]; omega
    · obtain rfl : j = 15 := by omega
      have HE := Lib.hid (show p = R from HGO.out)
      go_wp2_with fail
      go_ret
      rw [← HE.out]
      exact ⟨rfl, HB0.out.trans (HB.out.mono HB0.out.size)⟩
end Go.Proofs.YthcodmcfkmochaaDoor
