/-
  Package strings: Width, hasAll.
-/
import Derived.Test.YtbpfggkpfaobhaaGreatStTab
import Derived.LoopN
namespace Go.Proofs.YtbpfggkpfaobhaaGreat
open Go.RowKit Go.Shelf
set_option linter.unusedVariables false
set_option linter.unusedSimpArgs false
set_option maxRecDepth 100000

theorem wdT_no {l : List Nat} (h : isAl l = false) (al : Bool) : wdT l al = 0 := by unfold wdT; rw [if_neg (by rw [h]; simp)]
theorem wdT_false {l : List Nat} (h : isAl l = true) : wdT l false = wid ((sp l).length - 1) := by unfold wdT; rw [if_pos h, if_neg (by simp)]
theorem wdT_true {l : List Nat} (h : isAl l = true) : wdT l true = wdA (wid ((sp l).length - 1)) := by unfold wdT; rw [if_pos h, if_pos rfl]
theorem spS_size {s : ByteArray} (h : isAl (cods s) = true) : ∃ m, (spS s).size = m + 1 ∧ m ≤ 127 ∧ (sp (cods s)).length - 1 = m := by
  have h1 := cods_length (spS s)
  rw [spS_cods] at h1
  have h2 := sp_pos (cods s)
  have h3 := al_len (sp_al h)
  exact ⟨(spS s).size - 1, by omega, by omega, by omega⟩
def wdGo (x k : Nat) : Bool := (List.range k).all fun j => decide ([0, 1, 2, 4].getD j 0 < x)
def RelWd (w2 : World) (x : Nat) (i : Value) (wr : World) : Prop := ∃ k : Nat, k ≤ 4 ∧ i = .int .i64 k ∧ wr = w2 ∧ wdGo x k = true
theorem run_index_arr (w : World) (t e : TypeId) (n : Nat) (cs : Array Value) (j : Nat) (v : Value) (ht : Tryz.prog.underlying t = some (.array n e)) (hz : ∀ w, (sizeOf e).run Tryz.prog w = .ok 1 w) (ha : ∀ w, (isAgg e).run Tryz.prog w = .ok false w) (hj : j < n) (hv : cs[j]? = some v) :
    (Instr.index t (.agg cs) (.int .i64 (j : Nat))).run Tryz.prog w = .ok v w := by
  have h1 : (0 : Int) ≤ (j : Int) ∧ (j : Int) < (n : Int) := by omega
  simp [Instr.index, asIntOf, run_underlying ht, hz, Go.part, ha, h1, hv, hj]
theorem wpList_index {ops : Array Oper} {rest : List Oper} {op : Oper} {a : Act} {w : World} {Q : Exit → Act → World → Prop} (hgd : op.guard = none) (t : TypeId) (x i : Operand) (ho : op.op = .index t x i) (v : Value)
    (hrun : (Instr.index t (a.eval x) (a.eval i)).run Tryz.prog w = .ok v w) (hK : wpList Tryz.prog ops Q rest (a.put op.dst v) w) : wpList Tryz.prog ops Q (op :: rest) a w :=
  wpList_plain hgd fun K hK' => by
    unfold Oper.wp execOp
    simp only [ho, Sem.run_bind, hrun, Sem.run_pure, Result.andThen_ok]
    exact hK' _ _ hK
theorem isAgg_int (w : World) : (isAgg 3).run Tryz.prog w = .ok false w := run_isAgg_plain Tryz.underlying3 rfl w
theorem sizeOf_int (w : World) : (sizeOf 3).run Tryz.prog w = .ok 1 w := by kernel_rfl
set_option maxHeartbeats 4000000 in
theorem swidth_ok (s : ByteArray) (al : Bool) (w : World) (hs : s.size ≤ 9223372036854775807) :
    Calls Tryz.prog 23 #[.string s, .bool al] w fun e w' => e = .returned (.int .i64 (wdT (cods s) al : Nat)) ∧ Below w.heap.size w w' := by
  have hA := isAlphabet_ok s w hs
  cases hb : isAl (cods s) with
  | false =>
    rw [wdT_no hb]
    rw [hb] at hA
    have HA := Lib.hid hA
    clear hA hb
    go_enter Tryz.func23, Tryz.ntmps23
    go_wp2_with fail
    refine HA.out.mono ?_
    rintro e w1 ⟨rfl, hb1⟩
    have H1 := Lib.hid hb1
    clear hb1 HA
    go_wp2_with fail
    go_ret
    exact ⟨rfl, H1.out⟩
  | true =>
    rw [hb] at hA
    have HA := Lib.hid hA
    obtain ⟨m, hm, hm7, hl⟩ := spS_size hb
    have h7 := widA7 hb
    rw [hl] at h7
    have hu : (m : Int) % 18446744073709551616 = m := by omega
    have HW := Lib.hid (fun w => width_ok m w (by omega))
    have HS := Lib.hid (fun w => spelled_ok s w)
    have hsub : ((m + 1 : Nat) : Int) - 1 = (m : Int) := by omega
    cases al with
    | false =>
      rw [wdT_false hb, hl]
      clear hA hb hl
      generalize spS s = s2 at *
      generalize wid m = x at *
      go_enter Tryz.func23, Tryz.ntmps23
      go_wp2_with fail
      refine HA.out.mono ?_
      rintro e w1 ⟨rfl, hb1⟩
      have H1 := Lib.hid hb1
      clear hb1 HA
      go_wp2_with fail
      refine (HS.out w1).mono ?_
      rintro e w2 ⟨rfl, hb1⟩
      have H2 := Lib.hid (H1.out.trans (hb1.mono H1.out.size))
      clear hb1 H1
      go_wp2_with fail
      refine (HW.out w2).mono ?_
      rintro e w3 ⟨rfl, rfl⟩
      go_wp2_with fail
      go_ret
      exact ⟨rfl, H2.out⟩
    | true =>
      rw [wdT_true hb, hl]
      clear hA hb hl
      generalize spS s = s2 at *
      generalize wid m = x at *
      go_enter Tryz.func23, Tryz.ntmps23
      go_wp2_with fail
      refine HA.out.mono ?_
      rintro e w1 ⟨rfl, hb1⟩
      have H1 := Lib.hid hb1
      clear hb1 HA
      go_wp2_with fail
      refine (HS.out w1).mono ?_
      rintro e w2 ⟨rfl, hb1⟩
      have H2 := Lib.hid (H1.out.trans (hb1.mono H1.out.size))
      clear hb1 H1
      go_wp2_with fail
      refine (HW.out w2).mono ?_
      rintro e w3 ⟨rfl, rfl⟩
      have hx : x = 0 ∨ x = 1 ∨ x = 2 ∨ x = 3 ∨ x = 4 ∨ x = 5 ∨ x = 6 ∨ x = 7 := by omega
      clear HW h7
      rcases hx with rfl | rfl | rfl | rfl | rfl | rfl | rfl | rfl
      · go_wp2_with fail
        go_loopw [21] (fun i wr => RelWd w2 0 i wr) (fun i _ => 4 - (intOf i).toNat)
        case atStart => exact ⟨0, by omega, rfl, rfl, by decide⟩
        case round =>
          obtain ⟨k, hk, rfl, rfl, hall⟩ := hrel
          have hk5 : k = 0 ∨ k = 1 ∨ k = 2 ∨ k = 3 ∨ k = 4 := by omega
          rcases hk5 with rfl | rfl | rfl | rfl | rfl
          all_goals first
            | (exfalso; revert hall; decide)
            | (clear hall
               go_wp2_with (refine wpList_index rfl 87 (.tmp 20) (.tmp 21) rfl _ (run_index_arr _ 87 3 4 _ _ _ Tryz.underlying87 sizeOf_int isAgg_int (by decide) rfl) ?_)
               first
                | (go_ret
                   exact ⟨rfl, H2.out⟩)
                | (go_roundw
                   case rel => exact ⟨_, (by omega : _ + 1 ≤ 4), rfl, rfl, by decide⟩
                   case measure => simp [intOf]))
      · go_wp2_with fail
        go_loopw [21] (fun i wr => RelWd w2 1 i wr) (fun i _ => 4 - (intOf i).toNat)
        case atStart => exact ⟨0, by omega, rfl, rfl, by decide⟩
        case round =>
          obtain ⟨k, hk, rfl, rfl, hall⟩ := hrel
          have hk5 : k = 0 ∨ k = 1 ∨ k = 2 ∨ k = 3 ∨ k = 4 := by omega
          rcases hk5 with rfl | rfl | rfl | rfl | rfl
          all_goals first
            | (exfalso; revert hall; decide)
            | (clear hall
               go_wp2_with (refine wpList_index rfl 87 (.tmp 20) (.tmp 21) rfl _ (run_index_arr _ 87 3 4 _ _ _ Tryz.underlying87 sizeOf_int isAgg_int (by decide) rfl) ?_)
               first
                | (go_ret
                   exact ⟨rfl, H2.out⟩)
                | (go_roundw
                   case rel => exact ⟨_, (by omega : _ + 1 ≤ 4), rfl, rfl, by decide⟩
                   case measure => simp [intOf]))
      · go_wp2_with fail
        go_loopw [21] (fun i wr => RelWd w2 2 i wr) (fun i _ => 4 - (intOf i).toNat)
        case atStart => exact ⟨0, by omega, rfl, rfl, by decide⟩
        case round =>
          obtain ⟨k, hk, rfl, rfl, hall⟩ := hrel
          have hk5 : k = 0 ∨ k = 1 ∨ k = 2 ∨ k = 3 ∨ k = 4 := by omega
          rcases hk5 with rfl | rfl | rfl | rfl | rfl
          all_goals first
            | (exfalso; revert hall; decide)
            | (clear hall
               go_wp2_with (refine wpList_index rfl 87 (.tmp 20) (.tmp 21) rfl _ (run_index_arr _ 87 3 4 _ _ _ Tryz.underlying87 sizeOf_int isAgg_int (by decide) rfl) ?_)
               first
                | (go_ret
                   exact ⟨rfl, H2.out⟩)
                | (go_roundw
                   case rel => exact ⟨_, (by omega : _ + 1 ≤ 4), rfl, rfl, by decide⟩
                   case measure => simp [intOf]))
      · go_wp2_with fail
        go_loopw [21] (fun i wr => RelWd w2 3 i wr) (fun i _ => 4 - (intOf i).toNat)
        case atStart => exact ⟨0, by omega, rfl, rfl, by decide⟩
        case round =>
          obtain ⟨k, hk, rfl, rfl, hall⟩ := hrel
          have hk5 : k = 0 ∨ k = 1 ∨ k = 2 ∨ k = 3 ∨ k = 4 := by omega
          rcases hk5 with rfl | rfl | rfl | rfl | rfl
          all_goals first
            | (exfalso; revert hall; decide)
            | (clear hall
               go_wp2_with (refine wpList_index rfl 87 (.tmp 20) (.tmp 21) rfl _ (run_index_arr _ 87 3 4 _ _ _ Tryz.underlying87 sizeOf_int isAgg_int (by decide) rfl) ?_)
               first
                | (go_ret
                   exact ⟨rfl, H2.out⟩)
                | (go_roundw
                   case rel => exact ⟨_, (by omega : _ + 1 ≤ 4), rfl, rfl, by decide⟩
                   case measure => simp [intOf]))
      · go_wp2_with fail
        go_loopw [21] (fun i wr => RelWd w2 4 i wr) (fun i _ => 4 - (intOf i).toNat)
        case atStart => exact ⟨0, by omega, rfl, rfl, by decide⟩
        case round =>
          obtain ⟨k, hk, rfl, rfl, hall⟩ := hrel
          have hk5 : k = 0 ∨ k = 1 ∨ k = 2 ∨ k = 3 ∨ k = 4 := by omega
          rcases hk5 with rfl | rfl | rfl | rfl | rfl
          all_goals first
            | (exfalso; revert hall; decide)
            | (clear hall
               go_wp2_with (refine wpList_index rfl 87 (.tmp 20) (.tmp 21) rfl _ (run_index_arr _ 87 3 4 _ _ _ Tryz.underlying87 sizeOf_int isAgg_int (by decide) rfl) ?_)
               first
                | (go_ret
                   exact ⟨rfl, H2.out⟩)
                | (go_roundw
                   case rel => exact ⟨_, (by omega : _ + 1 ≤ 4), rfl, rfl, by decide⟩
                   case measure => simp [intOf]))
      · go_wp2_with fail
        go_loopw [21] (fun i wr => RelWd w2 5 i wr) (fun i _ => 4 - (intOf i).toNat)
        case atStart => exact ⟨0, by omega, rfl, rfl, by decide⟩
        case round =>
          obtain ⟨k, hk, rfl, rfl, hall⟩ := hrel
          have hk5 : k = 0 ∨ k = 1 ∨ k = 2 ∨ k = 3 ∨ k = 4 := by omega
          rcases hk5 with rfl | rfl | rfl | rfl | rfl
          all_goals first
            | (exfalso; revert hall; decide)
            | (clear hall
               go_wp2_with (refine wpList_index rfl 87 (.tmp 20) (.tmp 21) rfl _ (run_index_arr _ 87 3 4 _ _ _ Tryz.underlying87 sizeOf_int isAgg_int (by decide) rfl) ?_)
               first
                | (go_ret
                   exact ⟨rfl, H2.out⟩)
                | (go_roundw
                   case rel => exact ⟨_, (by omega : _ + 1 ≤ 4), rfl, rfl, by decide⟩
                   case measure => simp [intOf]))
      · go_wp2_with fail
        go_loopw [21] (fun i wr => RelWd w2 6 i wr) (fun i _ => 4 - (intOf i).toNat)
        case atStart => exact ⟨0, by omega, rfl, rfl, by decide⟩
        case round =>
          obtain ⟨k, hk, rfl, rfl, hall⟩ := hrel
          have hk5 : k = 0 ∨ k = 1 ∨ k = 2 ∨ k = 3 ∨ k = 4 := by omega
          rcases hk5 with rfl | rfl | rfl | rfl | rfl
          all_goals first
            | (exfalso; revert hall; decide)
            | (clear hall
               go_wp2_with (refine wpList_index rfl 87 (.tmp 20) (.tmp 21) rfl _ (run_index_arr _ 87 3 4 _ _ _ Tryz.underlying87 sizeOf_int isAgg_int (by decide) rfl) ?_)
               first
                | (go_ret
                   exact ⟨rfl, H2.out⟩)
                | (go_roundw
                   case rel => exact ⟨_, (by omega : _ + 1 ≤ 4), rfl, rfl, by decide⟩
                   case measure => simp [intOf]))
      · go_wp2_with fail
        go_loopw [21] (fun i wr => RelWd w2 7 i wr) (fun i _ => 4 - (intOf i).toNat)
        case atStart => exact ⟨0, by omega, rfl, rfl, by decide⟩
        case round =>
          obtain ⟨k, hk, rfl, rfl, hall⟩ := hrel
          have hk5 : k = 0 ∨ k = 1 ∨ k = 2 ∨ k = 3 ∨ k = 4 := by omega
          rcases hk5 with rfl | rfl | rfl | rfl | rfl
          all_goals first
            | (exfalso; revert hall; decide)
            | (clear hall
               go_wp2_with (refine wpList_index rfl 87 (.tmp 20) (.tmp 21) rfl _ (run_index_arr _ 87 3 4 _ _ _ Tryz.underlying87 sizeOf_int isAgg_int (by decide) rfl) ?_)
               first
                | (go_ret
                   exact ⟨rfl, H2.out⟩)
                | (go_roundw
                   case rel => exact ⟨_, (by omega : _ + 1 ≤ 4), rfl, rfl, by decide⟩
                   case measure => simp [intOf]))
end Go.Proofs.YtbpfggkpfaobhaaGreat
