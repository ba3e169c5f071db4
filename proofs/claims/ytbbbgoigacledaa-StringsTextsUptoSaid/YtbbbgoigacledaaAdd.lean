/-
  The walks of the Writer's inner method 'add', cell by cell.
-/
import Derived.Test.YtbbbgoigacledaaProg
import Derived.WalkKit
import Derived.WalkLawsBesides
import Derived.Lib.Hide
import Derived.Deep.DeepFit
import Derived.Deep.MidRow
import Derived.KernelRfl
namespace Go.Proofs.Ytbbbgoigacledaa
open Go.RowKit
set_option linter.unusedVariables false
set_option linter.unusedSimpArgs false
set_option maxRecDepth 100000

theorem rint {k : IntKind} {a b : Int} (h : a = b) : Ending.returned (.int k a) = .returned (.int k b) := by rw [h]
theorem rbool {a b : Bool} (h : a = b) : Ending.returned (.bool a) = .returned (.bool b) := by rw [h]

theorem gap_any (n : Nat) (w : World) (hn : n ≤ 1000000000000) :
    Calls Try.prog 86 #[.int .i64 n] w fun e w' => e = .returned (.int .i64 ((8 - n % 8) % 8 : Nat)) ∧ w = w' := by
  go_enter Try.func86, Try.ntmps86
  go_wp2
  go_ret
  exact ⟨rint (by omega), rfl⟩

def widthB (z : Int) : Bool := decide (0 ≤ z ∧ z ≤ 64)
theorem isWidth_any (z : Int) (w : World) :
    Calls Try.prog 49 #[.int .i64 z] w fun e w' => e = .returned (.bool (widthB z)) ∧ w = w' := by
  unfold widthB
  by_cases h : 0 ≤ z
  · by_cases h2 : z ≤ 64 
    all_goals
      go_enter Try.func49, Try.ntmps49
      go_wp2
      go_ret
      exact ⟨rbool (by simp [h, h2]), rfl⟩
  · go_enter Try.func49, Try.ntmps49
    go_wp2
    go_ret
    exact ⟨rbool (by simp; omega), rfl⟩

theorem build_chunk' (w : World) (c : Option Addr) (f : Fin 64 → Value) :
    (Instr.build 72 #[(0, .pointer c), (1, .agg (List.ofFn f).toArray)]).run Try.prog w = .ok (.agg (#[.pointer c] ++ (List.ofFn f).toArray)) w := by kernel_rfl
theorem build_chunk (w : World) (c : Option Addr) (cs : List Value) (h : cs.length = 64) :
    (Instr.build 72 #[(0, .pointer c), (1, .agg cs.toArray)]).run Try.prog w = .ok (.agg (#[.pointer c] ++ cs.toArray)) w := by
  have e : cs = List.ofFn (fun i : Fin 64 => cs[i.1]'(by omega)) := by
    apply List.ext_getElem
    · simp [h]
    · intro i h1 h2; rw [List.getElem_ofFn]
  rw [e]
  exact build_chunk' w c _
theorem ready_run {P : Program} {ops : Array Oper} {Q : Exit → Act → World → Prop} {md : Region.Mode} {fuel : Nat} {listed : Array Bool} {a : Act} {w w' : World} {i : Nat} {o : Oper} {rs : List Nat} (v : Value)
    (ho : ops[i]? = some o) (hg : o.guard = none) (hrun : (execOp a.eval o).run P w = .ok (.value v) w')
    (hK : wpAny P md ops Q fuel (listed.setIfInBounds i true) (a.put o.dst v) w') (hs : AllReady P md ops Q fuel listed a w rs) : AllReady P md ops Q fuel listed a w (i :: rs) :=
  AllReady.cons ho (fun K hK' => by
    rw [if_pos (by simp [Region.wanted, hg])]
    unfold Oper.wp
    rw [hrun]
    exact hK' _ _ hK) hs
theorem ready_skip {P : Program} {ops : Array Oper} {Q : Exit → Act → World → Prop} {md : Region.Mode} {fuel : Nat} {listed : Array Bool} {a : Act} {w w' : World} {i : Nat} {o : Oper} {rs : List Nat}
    (ho : ops[i]? = some o) (hg : o.guard = none) (hrun : (execOp a.eval o).run P w = .ok .skip w')
    (hK : wpAny P md ops Q fuel (listed.setIfInBounds i true) (a.put o.dst undef) w') (hs : AllReady P md ops Q fuel listed a w rs) : AllReady P md ops Q fuel listed a w (i :: rs) :=
  AllReady.cons ho (fun K hK' => by
    rw [if_pos (by simp [Region.wanted, hg])]
    unfold Oper.wp
    rw [hrun]
    exact hK' _ _ hK) hs
theorem yields_run {P : Program} {ops : Array Oper} {o : Oper} {a : Act} {v : Value} (hw : Region.wanted o (yielded ops a.tmps) = true) (hrun : ∀ w, (execOp a.eval o).run P w = .ok (.value v) w) : Yields P ops o v a := Or.inl ⟨hw, hrun⟩
theorem there_setCell {w : World} {b o n : Nat} (h : w.there b o n) (a : Addr) (v : Value) : (w.setCell a v).there b o n := fun j hj => by
  obtain ⟨h1, h2⟩ := h j hj
  refine ⟨?_, by rw [World.frozen?_setCell]; exact h2⟩
  have := World.isSome_setCells a.block [v] a.off w ⟨b, o + j, none⟩ h1
  obtain ⟨u, hu⟩ := Option.isSome_iff_exists.1 h1
  by_cases e : a = ⟨b, o + j, none⟩
  · rw [e, World.cell?_setCell_same _ _ _ hu]; rfl
  · rw [World.cell?_setCell_other _ _ _ _ e, hu]; rfl
theorem exec_load_mid {P : Program} (w : World) (a : Act) (o : Oper) (b off : Nat) (ty : TypeId) (x : Operand) (cs : List Value) (d : TypeDesc) (ho : o.op = .load ty x)
    (hx : a.eval x = .pointer (some ⟨b, off, none⟩)) (hc : w.rangeAt b off cs)
    (hu : P.underlying ty = some d) (hd : d.isRow = true) (hi : (P.info? ty).map (·.size) = some cs.length) : (execOp a.eval o).run P w = .ok (.value (.agg cs.toArray)) w := by
  unfold execOp
  simp only [ho, hx, Instr.loadAt, Instr.sureAddr, Sem.run_bind, Sem.run_pure, Result.andThen_ok, run_loadVar_mid w b off ty cs d hc hu hd hi]
theorem exec_build_chunk (w : World) (a : Act) (o : Oper) (x y : Operand) (p : Option Addr) (cs : List Value) (ho : o.op = .build 72 #[(0, x), (1, y)])
    (hx : a.eval x = .pointer p) (hy : a.eval y = .agg cs.toArray) (h : cs.length = 64) : (execOp a.eval o).run Try.prog w = .ok (.value (.agg (#[.pointer p] ++ cs.toArray))) w := by
  unfold execOp
  simp only [ho, List.map_toArray, List.map_cons, List.map_nil, hx, hy, Sem.run_bind, build_chunk w p cs h, Sem.run_pure, Result.andThen_ok]
def zeros64 : Array Value := Array.replicate 64 (.int .u8 0)
theorem build_zeros (w : World) : (Instr.build 54 #[]).run Try.prog w = .ok (.agg zeros64) w := by kernel_rfl
theorem info_arr : (Try.prog.info? 54).map (·.size) = some 64 := by kernel_rfl
theorem box_chunk (w : World) (c : Option Addr) (cs : List Value) :
    (Instr.box 72 (.agg (#[.pointer c] ++ cs.toArray))).run Try.prog w = .ok (.pointer (some ⟨w.heap.size, 0, none⟩)) (w.alloc (.cells (#[.pointer c] ++ cs.toArray) 72)) := rfl

theorem add_zero (b : Nat) (x : Int) (w : World) :
    Calls Try.prog 56 #[.pointer (some ⟨b, 0, none⟩), .int .u8 x, .int .i64 0] w fun e w' => e = .returned (.tuple #[]) ∧ w = w' := by
  go_enter Try.func56, Try.ntmps56
  go_wp2
  refine bodyPost_ret (results_none rfl _ _ _) rfl ?_
  exact ⟨rfl, rfl⟩

theorem or8 (x y : Nat) (hx : x < 256) (hy : y < 256) : bits BinOp.or IntKind.u8 (y : Int) (x : Int) = ((y ||| x : Nat) : Int) := u8_or_nat y x hy hx

theorem add_plain (b n c : Nat) (x y : Nat) (w : World) (hc : 1 ≤ c) (hc8 : c ≤ 8) (hn : n ≤ 1000000000000)
    (h1 : w.cell? ⟨b, 65, none⟩ = some (.int .i64 n)) (h1f : w.frozen? ⟨b, 65, none⟩ = false)
    (h2 : w.cell? ⟨b, 1 + n % 512 / 8, none⟩ = some (.int .u8 y)) (h2f : w.frozen? ⟨b, 1 + n % 512 / 8, none⟩ = false)
    (hm : (n + c) % 512 ≠ 0) (hx : x < 256) (hy : y < 256) :
    Calls Try.prog 56 #[.pointer (some ⟨b, 0, none⟩), .int .u8 x, .int .i64 c] w fun e w' => e = .returned (.tuple #[]) ∧
      w' = ((w.setCell ⟨b, 1 + n % 512 / 8, none⟩ (.int .u8 (bits BinOp.or IntKind.u8 (y : Int) (x : Int)))).setCell ⟨b, 65, none⟩ (.int .i64 ((n : Int) + c))).drew := by
  go_enter Try.func56, Try.ntmps56
  go_wp2
  go_region
  all_goals go_wp2
  all_goals (go_end0; exact ⟨rfl, rfl⟩)


set_option maxRecDepth 100000 in
set_option maxHeartbeats 1000000 in
theorem add_full (b n c : Nat) (x y : Nat) (w W2 : World) (p : Option Addr) (cs : List Value) (hc : 1 ≤ c) (hc8 : c ≤ 8) (hn : n ≤ 1000000000000)
    (h1 : w.cell? ⟨b, 65, none⟩ = some (.int .i64 n)) (h1f : w.frozen? ⟨b, 65, none⟩ = false)
    (h2 : w.cell? ⟨b, 1 + n % 512 / 8, none⟩ = some (.int .u8 y)) (h2f : w.frozen? ⟨b, 1 + n % 512 / 8, none⟩ = false)
    (hm : (n + c) % 512 = 0) (hx : x < 256) (hy : y < 256) (hcs : cs.length = 64)
    (hW2 : W2 = ((w.setCell ⟨b, 1 + n % 512 / 8, none⟩ (.int .u8 (bits BinOp.or IntKind.u8 (y : Int) (x : Int)))).setCell ⟨b, 65, none⟩ (.int .i64 ((n : Int) + c))).drew)
    (g0 : W2.cell? ⟨b, 0, none⟩ = some (.pointer p)) (g0f : W2.frozen? ⟨b, 0, none⟩ = false) (hb : b < W2.heap.size)
    (hr : W2.rangeAt b 1 cs) (ht : W2.there b 1 64) :
    Calls Try.prog 56 #[.pointer (some ⟨b, 0, none⟩), .int .u8 x, .int .i64 c] w fun e w' => e = .returned (.tuple #[]) ∧
      w' = (((W2.setCell ⟨b, 0, none⟩ (.pointer (some ⟨W2.heap.size, 0, none⟩))).alloc (.cells (#[.pointer p] ++ cs.toArray) 72)).drew).setCells b 1 zeros64.toList := by
  have hld := run_loadAt_mid (P := Try.prog) W2.drew b 1 54 cs _ ((World.rangeAt_drew _ _ _ _).2 hr) Try.underlying54 rfl (by rw [info_arr, hcs])
  have hbc := fun w => build_chunk w p cs hcs
  have hbz := build_zeros
  have hbx := fun w => box_chunk w p cs
  have HR := Lib.hid hr; clear hr
  have HT := Lib.hid ht; clear ht
  go_enter Try.func56, Try.ntmps56
  have HW := Lib.hid hW2; clear hW2
  go_wp2
  go_region
  go_wp2
  rw [← HW.out]
  clear h1 h1f h2 h2f HW
  have hr := HR.out
  have ht := HT.out
  refine wp_region_any (by kernel_rfl) ?_
  change wpAny _ _ _ _ _ _ _ W2.drew
  clear hld hbc hbz hbx HR HT
  refine wpAny_take (i := 0) (v := .pointer (some ⟨b, 0, none⟩)) rfl (by kernel_rfl) (by kernel_rfl) (by kernel_rfl) (fun _ _ _ h => h) (yields_run (by rfl) (fun w => ?_)) ?_
  · go_simp
  refine wpAny_take (i := 1) (v := .pointer (some ⟨b, 0, none⟩)) rfl (by kernel_rfl) (by kernel_rfl) (by kernel_rfl) (fun _ _ _ h => h) (yields_run (by rfl) (fun w => ?_)) ?_
  · go_simp
  refine wpAny_take (i := 2) (v := .pointer (some ⟨b, 0, none⟩)) rfl (by kernel_rfl) (by kernel_rfl) (by kernel_rfl) (fun _ _ _ h => h) (yields_run (by rfl) (fun w => ?_)) ?_
  · go_simp
  refine wpAny_take (i := 5) (v := .pointer (some ⟨b, 0, none⟩)) rfl (by kernel_rfl) (by kernel_rfl) (by kernel_rfl) (fun _ _ _ h => h) (yields_run (by rfl) (fun w => ?_)) ?_
  · go_simp
  refine wpAny_take (i := 6) (v := .pointer (some ⟨b, 0, none⟩)) rfl (by kernel_rfl) (by kernel_rfl) (by kernel_rfl) (fun _ _ _ h => h) (yields_run (by rfl) (fun w => ?_)) ?_
  · go_simp
  refine wpAny_take (i := 3) (v := .pointer (some ⟨b, 0, none⟩)) rfl (by kernel_rfl) (by kernel_rfl) (by kernel_rfl) (fun _ _ _ h => h) (yields_run (by rfl) (fun w => ?_)) ?_
  · go_simp
  refine wpAny_take (i := 7) (v := .pointer (some ⟨b, 1, none⟩)) rfl (by kernel_rfl) (by kernel_rfl) (by kernel_rfl) (fun _ _ _ h => h) (yields_run (by rfl) (fun w => ?_)) ?_
  · go_simp
  simp only [Act.put, List.setIfInBounds_toArray, List.set_cons_succ, List.set_cons_zero]
  refine wpAny_ready (rs := [4, 8]) (by kernel_rfl) (by simp) ?_
  refine ready_run (w' := W2.drew) (.pointer p) rfl rfl ?_ ?_ ?_
  · go_simp
  · refine wpAny_ready (rs := [8]) (by kernel_rfl) (by simp) ?_
    refine ready_run (w' := W2.drew) (.agg cs.toArray) rfl rfl ?_ ?_ AllReady.nil
    · exact exec_load_mid W2.drew _ _ b 1 54 (.tmp 45) cs _ (by kernel_rfl) (by kernel_rfl) ((World.rangeAt_drew _ _ _ _).2 hr) Try.underlying54 rfl (by rw [info_arr, hcs])
    refine wpAny_take (i := 9) (v := .agg (#[.pointer p] ++ cs.toArray)) rfl (by kernel_rfl) (by kernel_rfl) (by kernel_rfl) (fun _ _ _ h => h) (yields_run (by rfl) (fun w => ?_)) ?_
    · exact exec_build_chunk w _ _ (.tmp 42) (.tmp 46) p cs (by kernel_rfl) (by kernel_rfl) (by kernel_rfl) hcs
    refine wpAny_ready (rs := [10]) (by kernel_rfl) (by simp) ?_
    refine ready_run (w' := (W2.alloc (.cells (#[.pointer p] ++ cs.toArray) 72)).drew) (.pointer (some ⟨W2.heap.size, 0, none⟩)) rfl rfl (by kernel_rfl) ?_ AllReady.nil
    refine wpAny_take (i := 11) (v := .pointer (some ⟨b, 0, none⟩)) rfl (by kernel_rfl) (by kernel_rfl) (by kernel_rfl) (fun _ _ _ h => h) (yields_run (by rfl) (fun w => ?_)) ?_
    · go_simp
    refine wpAny_take (i := 12) (v := .pointer (some ⟨b, 0, none⟩)) rfl (by kernel_rfl) (by kernel_rfl) (by kernel_rfl) (fun _ _ _ h => h) (yields_run (by rfl) (fun w => ?_)) ?_
    · go_simp
    simp only [Act.put, List.setIfInBounds_toArray, List.set_cons_succ, List.set_cons_zero]
    refine wpAny_ready (rs := [13]) (by kernel_rfl) (by simp) ?_
    refine AllReady.cons rfl (fun K hK => ?_) AllReady.nil
    go_simp
    refine hK _ _ ?_
    clear hK K
    refine wpAny_done (by kernel_rfl) ?_ _
    simp only [Exit.then]
    go_wp2_with (refine wpList_store_mid rfl 54 (.tmp 54) (.tmp 52) rfl b 1 zeros64 (by kernel_rfl) (by kernel_rfl) ((World.there_drew _ _ _ _).2 (World.there_alloc (there_setCell ht _ _) _)) info_arr (by kernel_rfl) ?_)
    go_end0
    exact ⟨rfl, rfl⟩
  refine ready_run (w' := W2.drew) (.agg cs.toArray) rfl rfl ?_ ?_ AllReady.nil
  · exact exec_load_mid W2.drew _ _ b 1 54 (.tmp 45) cs _ (by kernel_rfl) (by kernel_rfl) ((World.rangeAt_drew _ _ _ _).2 hr) Try.underlying54 rfl (by rw [info_arr, hcs])
  refine wpAny_ready (rs := [4]) (by kernel_rfl) (by simp) ?_
  refine ready_run (w' := W2.drew) (.pointer p) rfl rfl ?_ ?_ AllReady.nil
  · go_simp
  refine wpAny_take (i := 9) (v := .agg (#[.pointer p] ++ cs.toArray)) rfl (by kernel_rfl) (by kernel_rfl) (by kernel_rfl) (fun _ _ _ h => h) (yields_run (by rfl) (fun w => ?_)) ?_
  · exact exec_build_chunk w _ _ (.tmp 42) (.tmp 46) p cs (by kernel_rfl) (by kernel_rfl) (by kernel_rfl) hcs
  refine wpAny_ready (rs := [10]) (by kernel_rfl) (by simp) ?_
  refine ready_run (w' := (W2.alloc (.cells (#[.pointer p] ++ cs.toArray) 72)).drew) (.pointer (some ⟨W2.heap.size, 0, none⟩)) rfl rfl (by kernel_rfl) ?_ AllReady.nil
  refine wpAny_take (i := 11) (v := .pointer (some ⟨b, 0, none⟩)) rfl (by kernel_rfl) (by kernel_rfl) (by kernel_rfl) (fun _ _ _ h => h) (yields_run (by rfl) (fun w => ?_)) ?_
  · go_simp
  refine wpAny_take (i := 12) (v := .pointer (some ⟨b, 0, none⟩)) rfl (by kernel_rfl) (by kernel_rfl) (by kernel_rfl) (fun _ _ _ h => h) (yields_run (by rfl) (fun w => ?_)) ?_
  · go_simp
  simp only [Act.put, List.setIfInBounds_toArray, List.set_cons_succ, List.set_cons_zero]
  refine wpAny_ready (rs := [13]) (by kernel_rfl) (by simp) ?_
  refine AllReady.cons rfl (fun K hK => ?_) AllReady.nil
  go_simp
  refine hK _ _ ?_
  clear hK K
  refine wpAny_done (by kernel_rfl) ?_ _
  simp only [Exit.then]
  go_wp2_with (refine wpList_store_mid rfl 54 (.tmp 54) (.tmp 52) rfl b 1 zeros64 (by kernel_rfl) (by kernel_rfl) ((World.there_drew _ _ _ _).2 (World.there_alloc (there_setCell ht _ _) _)) info_arr (by kernel_rfl) ?_)
  go_end0
  exact ⟨rfl, rfl⟩
end Go.Proofs.Ytbbbgoigacledaa
