import Derived.Test.YtbpfggkpfaobhaaGreatProg
import Derived.WalkKit
import Derived.WalkLawsBesides
import Derived.Lib.Hide
import Derived.Deep.DeepFit
import Derived.Deep.MidRow
import Derived.KernelRfl
import Derived.Laws.CopyRow
import Derived.Laws.CopyOwn
import Derived.OwnWalk
import Derived.Laws.BytesArg
/-
  Plain facts on bits, numbers and octets: no program is named here.
-/
namespace Go.Proofs.YtbpfggkpfaobhaaGreat
set_option linter.unusedVariables false
set_option linter.unusedSimpArgs false
set_option maxRecDepth 100000

/-- the number that bits are, the first one the most significant -/
def num (C : List Bool) : Nat := C.foldl (fun a b => 2 * a + b.toNat) 0

/-- the w lowest bits of v, the most significant one first -/
def nb (v w : Nat) : List Bool := (List.range w).map fun i => v.testBit (w - 1 - i)

/-- octet j of bits, padded with zeros -/
def oct (B : List Bool) (j : Nat) : Nat := num ((List.range 8).map fun k => B.getD (8 * j + k) false)

/-- the bits of octets -/
def bitsOf (l : List Nat) : List Bool := l.flatMap fun o => nb o 8

theorem num_nil : num [] = 0 := rfl
theorem num_snoc (C : List Bool) (b : Bool) : num (C ++ [b]) = 2 * num C + b.toNat := by
  simp [num, List.foldl_append]
theorem num_lt (C : List Bool) : num C < 2 ^ C.length := by
  suffices h : ∀ r : List Bool, num r.reverse < 2 ^ r.length by simpa using h C.reverse
  intro r
  induction r with
  | nil => simp [num]
  | cons b r ih =>
    rw [List.reverse_cons, num_snoc, List.length_cons, Nat.pow_succ]
    have : b.toNat ≤ 1 := by cases b <;> simp
    omega
theorem num_testBit (C : List Bool) (i : Nat) : (num C).testBit i = (decide (i < C.length) && C.getD (C.length - 1 - i) false) := by
  suffices h : ∀ (r : List Bool) (i : Nat), (num r.reverse).testBit i = r.getD i false by
    have := h C.reverse i
    rw [List.reverse_reverse] at this
    rw [this]
    by_cases hi : i < C.length
    · rw [List.getD_eq_getElem?_getD, List.getD_eq_getElem?_getD, List.getElem?_reverse hi]; simp [hi]
    · simp [hi, List.getD_eq_getElem?_getD]
  intro r
  induction r with
  | nil => simp [num]
  | cons b r ih =>
    intro i
    rw [List.reverse_cons, num_snoc]
    cases i with
    | zero =>
      simp [Nat.testBit_zero]
      cases b <;> simp <;> omega
    | succ i =>
      rw [Nat.testBit_succ]
      have : (2 * num r.reverse + b.toNat) / 2 = num r.reverse := by cases b <;> simp <;> omega
      rw [this, ih]; simp

theorem nb_length (v w : Nat) : (nb v w).length = w := by simp [nb]
theorem nb_getElem (v w i : Nat) (h : i < (nb v w).length) : (nb v w)[i] = v.testBit (w - 1 - i) := by simp [nb]
theorem nb_getD (v w i : Nat) (h : i < w) : (nb v w).getD i false = v.testBit (w - 1 - i) := by
  simp [nb, List.getD_eq_getElem?_getD, h]
theorem num_nb (v w : Nat) (h : v < 2 ^ w) : num (nb v w) = v := by
  apply Nat.eq_of_testBit_eq
  intro i
  rw [num_testBit, nb_length]
  by_cases hi : i < w
  · rw [nb_getD _ _ _ (by omega)]
    simp [hi]
    congr 1; omega
  · simp [hi]
    exact Nat.testBit_lt_two_pow (Nat.lt_of_lt_of_le h (Nat.pow_le_pow_right (by omega) (by omega)))
theorem nb_num (C : List Bool) : nb (num C) C.length = C := by
  apply List.ext_getElem
  · simp [nb]
  · intro i h1 h2
    rw [nb_getElem, num_testBit]
    simp [List.getD_eq_getElem?_getD]
    have e : C.length - 1 - (C.length - 1 - i) = i := by omega
    rw [e]
    simp [h2]; omega
theorem num_inj {C D : List Bool} (hl : C.length = D.length) (h : num C = num D) : C = D := by
  rw [← nb_num C, ← nb_num D, h, hl]
theorem nb_zero (w : Nat) : nb 0 w = List.replicate w false := by
  apply List.ext_getElem <;> simp [nb]
theorem nb_take_succ (v w k : Nat) (h : k < w) : (nb v w).take (k + 1) = (nb v w).take k ++ [v.testBit (w - 1 - k)] := by
  rw [List.take_succ_eq_append_getElem (by simpa [nb] using h), nb_getElem]
/-- a number in two parts -/
theorem nb_split (v w k : Nat) (h : k ≤ w) : nb v w = nb (v >>> k) (w - k) ++ nb v k := by
  apply List.ext_getElem
  · simp [nb]; omega
  · intro i h1 h2
    rw [nb_length] at h1
    rw [nb_getElem, List.getElem_append]
    split
    · rename_i hi
      rw [nb_length] at hi
      rw [nb_getElem, Nat.testBit_shiftRight]
      congr 1; omega
    · rename_i hi
      rw [nb_length] at hi
      rw [nb_getElem]
      congr 1
      rw [nb_length]; omega
theorem nb_mod (v w : Nat) : nb (v % 2 ^ w) w = nb v w := by
  apply List.ext_getElem
  · simp [nb]
  · intro i h1 h2
    rw [nb_length] at h1
    rw [nb_getElem, nb_getElem, Nat.testBit_mod_two_pow]
    simp; omega

theorem oct_lt (B : List Bool) (j : Nat) : oct B j < 256 := by
  have := num_lt ((List.range 8).map fun k => B.getD (8 * j + k) false)
  simpa [oct] using this
theorem oct_testBit (B : List Bool) (j i : Nat) : (oct B j).testBit i = (decide (i < 8) && B.getD (8 * j + (7 - i)) false) := by
  unfold oct
  rw [num_testBit]
  by_cases hi : i < 8
  · simp [hi, List.getD_eq_getElem?_getD]
    have : 7 - i < 8 := by omega
    simp [this]
  · simp [hi]
theorem oct_congr {B D : List Bool} {i j : Nat} (h : ∀ k, k < 8 → B.getD (8 * i + k) false = D.getD (8 * j + k) false) : oct B i = oct D j := by
  unfold oct
  congr 1
  apply List.map_congr_left
  intro k hk
  exact h k (by simpa using hk)
theorem oct_past (B : List Bool) (j : Nat) (h : B.length ≤ 8 * j) : oct B j = 0 := by
  apply Nat.eq_of_testBit_eq
  intro i
  rw [oct_testBit, List.getD_eq_getElem?_getD, List.getElem?_eq_none (by omega)]
  simp
/-- octets that were complete stay -/
theorem oct_append_before (B C : List Bool) (j : Nat) (h : 8 * j + 8 ≤ B.length) : oct (B ++ C) j = oct B j := by
  apply oct_congr
  intro k hk
  rw [List.getD_eq_getElem?_getD, List.getD_eq_getElem?_getD, List.getElem?_append_left (by omega)]
/-- the octet that is begun -/
theorem oct_append_at (B C : List Bool) (h : C.length ≤ 8 - B.length % 8) :
    oct (B ++ C) (B.length / 8) = oct B (B.length / 8) ||| oct (List.replicate (B.length % 8) false ++ C) 0 := by
  apply Nat.eq_of_testBit_eq
  intro i
  rw [Nat.testBit_or, oct_testBit, oct_testBit, oct_testBit]
  by_cases hi : i < 8
  · simp only [hi, decide_true, Bool.true_and]
    by_cases hk : 7 - i < B.length % 8
    · rw [List.getD_eq_getElem?_getD, List.getElem?_append_left (by omega), ← List.getD_eq_getElem?_getD]
      have : (List.replicate (B.length % 8) false ++ C).getD (8 * 0 + (7 - i)) false = false := by
        rw [List.getD_eq_getElem?_getD, List.getElem?_append_left (by simpa using hk)]
        simp [hk]
      rw [this]; simp
    · have e1 : B.getD (8 * (B.length / 8) + (7 - i)) false = false := by
        rw [List.getD_eq_getElem?_getD, List.getElem?_eq_none (by omega)]; rfl
      rw [e1, List.getD_eq_getElem?_getD, List.getElem?_append_right (by omega), List.getD_eq_getElem?_getD,
        List.getElem?_append_right (by simp; omega)]
      simp only [Bool.false_or, List.length_replicate]
      congr 2
      omega
  · simp [hi]
/-- the octet behind it -/
theorem oct_append_other (B C : List Bool) (j : Nat) (_h : C.length ≤ 8 - B.length % 8) (hj : j ≠ B.length / 8) : oct (B ++ C) j = oct B j := by
  by_cases h2 : j < B.length / 8
  · exact oct_append_before B C j (by omega)
  · rw [oct_past B j (by omega), oct_past (B ++ C) j (by simp; omega)]

theorem bitsOf_length (l : List Nat) : (bitsOf l).length = 8 * l.length := by
  induction l with
  | nil => rfl
  | cons a l ih => simp only [bitsOf, List.flatMap_cons, List.length_append, nb_length, List.length_cons] at *; omega
theorem bitsOf_append (a b : List Nat) : bitsOf (a ++ b) = bitsOf a ++ bitsOf b := by simp [bitsOf]
theorem bitsOf_getD (l : List Nat) (j k : Nat) (hk : k < 8) (hj : j < l.length) : (bitsOf l).getD (8 * j + k) false = (l.getD j 0).testBit (7 - k) := by
  induction l generalizing j with
  | nil => simp at hj
  | cons a l ih =>
    have e : bitsOf (a :: l) = nb a 8 ++ bitsOf l := by simp [bitsOf]
    rw [e]
    cases j with
    | zero =>
      rw [List.getD_eq_getElem?_getD, List.getElem?_append_left (by rw [nb_length]; omega), ← List.getD_eq_getElem?_getD, nb_getD _ _ _ (by omega)]
      simp
    | succ j =>
      rw [List.getD_eq_getElem?_getD, List.getElem?_append_right (by rw [nb_length]; omega), nb_length, ← List.getD_eq_getElem?_getD]
      rw [show 8 * (j + 1) + k - 8 = 8 * j + k by omega, ih j (by simpa using hj)]
      simp
theorem oct_bitsOf (l : List Nat) (j : Nat) (hj : j < l.length) (hl : l.getD j 0 < 256) : oct (bitsOf l) j = l.getD j 0 := by
  apply Nat.eq_of_testBit_eq
  intro i
  rw [oct_testBit]
  by_cases hi : i < 8
  · rw [bitsOf_getD _ _ _ (by omega) hj]
    simp [hi]
    congr 1; omega
  · simp [hi]
    have := Nat.testBit_lt_two_pow (x := l.getD j 0) (i := i) (Nat.lt_of_lt_of_le hl (by have := Nat.pow_le_pow_right (n := 2) (by omega) (show 8 ≤ i by omega); simpa using this))
    simpa [List.getD_eq_getElem?_getD] using this

/-- the octets of bits, padded -/
def octs (B : List Bool) : List Nat := (List.range ((B.length + 7) / 8)).map (oct B)
theorem octs_length (B : List Bool) : (octs B).length = (B.length + 7) / 8 := by simp [octs]
theorem octs_getD (B : List Bool) (j : Nat) (h : j < (B.length + 7) / 8) : (octs B).getD j 0 = oct B j := by
  simp [octs, List.getD_eq_getElem?_getD, h]
/-- bits, padded to octets -/
def padded (B : List Bool) : List Bool := B ++ List.replicate ((8 - B.length % 8) % 8) false
theorem padded_length (B : List Bool) : (padded B).length = 8 * ((B.length + 7) / 8) := by simp [padded]; omega
theorem padded_getD (B : List Bool) (i : Nat) : (padded B).getD i false = B.getD i false := by
  unfold padded
  rw [List.getD_eq_getElem?_getD, List.getD_eq_getElem?_getD]
  by_cases h : i < B.length
  · rw [List.getElem?_append_left h]
  · rw [List.getElem?_append_right (by omega), List.getElem?_eq_none (show B.length ≤ i by omega)]
    by_cases h2 : i - B.length < (8 - B.length % 8) % 8 <;> simp [h2]
theorem bitsOf_octs (B : List Bool) : bitsOf (octs B) = padded B := by
  apply List.ext_getElem
  · rw [bitsOf_length, octs_length, padded_length]
  · intro i h1 h2
    have hl : i < 8 * ((B.length + 7) / 8) := by rw [← padded_length]; exact h2
    have e1 : (bitsOf (octs B))[i] = (bitsOf (octs B)).getD i false := by simp [List.getD_eq_getElem?_getD, h1]
    have e2 : (padded B)[i] = (padded B).getD i false := by simp [List.getD_eq_getElem?_getD, h2]
    rw [e1, e2, padded_getD]
    have hi : i = 8 * (i / 8) + i % 8 := by omega
    rw [hi, bitsOf_getD _ _ _ (by omega) (by rw [octs_length]; omega), octs_getD _ _ (by omega), oct_testBit]
    simp
    rw [show 7 - (7 - i % 8) = i % 8 by omega]
    simp; omega
end Go.Proofs.YtbpfggkpfaobhaaGreat

/-
  The walks of the Writer's inner method 'add', cell by cell.
-/
namespace Go.Proofs.YtbpfggkpfaobhaaGreat
open Go.RowKit
set_option linter.unusedVariables false
set_option linter.unusedSimpArgs false
set_option maxRecDepth 100000

theorem rint {k : IntKind} {a b : Int} (h : a = b) : Ending.returned (.int k a) = .returned (.int k b) := by rw [h]
theorem rbool {a b : Bool} (h : a = b) : Ending.returned (.bool a) = .returned (.bool b) := by rw [h]

theorem gap_any (n : Nat) (w : World) (hn : n ≤ 1000000000000) :
    Calls Tryz.prog 82 #[.int .i64 n] w fun e w' => e = .returned (.int .i64 ((8 - n % 8) % 8 : Nat)) ∧ w = w' := by
  go_enter Tryz.func82, Tryz.ntmps82
  go_wp2
  go_ret
  exact ⟨rint (by omega), rfl⟩

def widthB (z : Int) : Bool := decide (0 ≤ z ∧ z ≤ 64)
theorem isWidth_any (z : Int) (w : World) :
    Calls Tryz.prog 26 #[.int .i64 z] w fun e w' => e = .returned (.bool (widthB z)) ∧ w = w' := by
  unfold widthB
  by_cases h : 0 ≤ z
  · by_cases h2 : z ≤ 64 
    all_goals
      go_enter Tryz.func26, Tryz.ntmps26
      go_wp2
      go_ret
      exact ⟨rbool (by simp [h, h2]), rfl⟩
  · go_enter Tryz.func26, Tryz.ntmps26
    go_wp2
    go_ret
    exact ⟨rbool (by simp; omega), rfl⟩

theorem build_chunk' (w : World) (c : Option Addr) (f : Fin 64 → Value) :
    (Instr.build 84 #[(0, .pointer c), (1, .agg (List.ofFn f).toArray)]).run Tryz.prog w = .ok (.agg (#[.pointer c] ++ (List.ofFn f).toArray)) w := by kernel_rfl
theorem build_chunk (w : World) (c : Option Addr) (cs : List Value) (h : cs.length = 64) :
    (Instr.build 84 #[(0, .pointer c), (1, .agg cs.toArray)]).run Tryz.prog w = .ok (.agg (#[.pointer c] ++ cs.toArray)) w := by
  have e : cs = List.ofFn (fun i : Fin 64 => cs[i.1]'(by omega)) := by
    apply List.ext_getElem
    · simp [h]
    · intro i h1 h2; rw [List.getElem_ofFn]
  rw [e]
  exact build_chunk' w c _
theorem ready_run {P : Program} {ops : Array Oper} {Q : Exit → Act → World → Prop} {md : Region.Mode} {fuel : Nat} {listed : Array Bool} {a : Act} {w w' : World} {i : Nat} {o : Oper} {rs : List Nat} (v : Value)
    (ho : ops[i]? = some o) (hg : o.guard = none) (hrun : (execOp a.eval o).run P w = .ok (.value v) w')
    (hK : wpAny P md ops Q fuel (listed.setIfInBounds i true) (a.put o.dst v) w') (hs : AllReady P md ops Q fuel listed a w rs) : AllReady P md ops Q fuel listed a w (i :: rs) :=
  AllReady.cons ho (fun K hK' => by
    rw [if_pos (by simp [Region.wanted, hg])]
    unfold Oper.wp
    rw [hrun]
    exact hK' _ _ hK) hs
theorem ready_skip {P : Program} {ops : Array Oper} {Q : Exit → Act → World → Prop} {md : Region.Mode} {fuel : Nat} {listed : Array Bool} {a : Act} {w w' : World} {i : Nat} {o : Oper} {rs : List Nat}
    (ho : ops[i]? = some o) (hg : o.guard = none) (hrun : (execOp a.eval o).run P w = .ok .skip w')
    (hK : wpAny P md ops Q fuel (listed.setIfInBounds i true) (a.put o.dst undef) w') (hs : AllReady P md ops Q fuel listed a w rs) : AllReady P md ops Q fuel listed a w (i :: rs) :=
  AllReady.cons ho (fun K hK' => by
    rw [if_pos (by simp [Region.wanted, hg])]
    unfold Oper.wp
    rw [hrun]
    exact hK' _ _ hK) hs
theorem yields_run {P : Program} {ops : Array Oper} {o : Oper} {a : Act} {v : Value} (hw : Region.wanted o (yielded ops a.tmps) = true) (hrun : ∀ w, (execOp a.eval o).run P w = .ok (.value v) w) : Yields P ops o v a := Or.inl ⟨hw, hrun⟩
theorem there_setCell {w : World} {b o n : Nat} (h : w.there b o n) (a : Addr) (v : Value) : (w.setCell a v).there b o n := fun j hj => by
  obtain ⟨h1, h2⟩ := h j hj
  refine ⟨?_, by rw [World.frozen?_setCell]; exact h2⟩
  have := World.isSome_setCells a.block [v] a.off w ⟨b, o + j, none⟩ h1
  obtain ⟨u, hu⟩ := Option.isSome_iff_exists.1 h1
  by_cases e : a = ⟨b, o + j, none⟩
  · rw [e, World.cell?_setCell_same _ _ _ hu]; rfl
  · rw [World.cell?_setCell_other _ _ _ _ e, hu]; rfl
theorem exec_load_mid {P : Program} (w : World) (a : Act) (o : Oper) (b off : Nat) (ty : TypeId) (x : Operand) (cs : List Value) (d : TypeDesc) (ho : o.op = .load ty x)
    (hx : a.eval x = .pointer (some ⟨b, off, none⟩)) (hc : w.rangeAt b off cs)
    (hu : P.underlying ty = some d) (hd : d.isRow = true) (hi : (P.info? ty).map (·.size) = some cs.length) : (execOp a.eval o).run P w = .ok (.value (.agg cs.toArray)) w := by
  unfold execOp
  simp only [ho, hx, Instr.loadAt, Instr.sureAddr, Sem.run_bind, Sem.run_pure, Result.andThen_ok, run_loadVar_mid w b off ty cs d hc hu hd hi]
theorem exec_build_chunk (w : World) (a : Act) (o : Oper) (x y : Operand) (p : Option Addr) (cs : List Value) (ho : o.op = .build 84 #[(0, x), (1, y)])
    (hx : a.eval x = .pointer p) (hy : a.eval y = .agg cs.toArray) (h : cs.length = 64) : (execOp a.eval o).run Tryz.prog w = .ok (.value (.agg (#[.pointer p] ++ cs.toArray))) w := by
  unfold execOp
  simp only [ho, List.map_toArray, List.map_cons, List.map_nil, hx, hy, Sem.run_bind, build_chunk w p cs h, Sem.run_pure, Result.andThen_ok]
def zeros64 : Array Value := Array.replicate 64 (.int .u8 0)
theorem build_zeros (w : World) : (Instr.build 48 #[]).run Tryz.prog w = .ok (.agg zeros64) w := by kernel_rfl
theorem info_arr : (Tryz.prog.info? 48).map (·.size) = some 64 := by kernel_rfl
theorem box_chunk (w : World) (c : Option Addr) (cs : List Value) :
    (Instr.box 84 (.agg (#[.pointer c] ++ cs.toArray))).run Tryz.prog w = .ok (.pointer (some ⟨w.heap.size, 0, none⟩)) (w.alloc (.cells (#[.pointer c] ++ cs.toArray) 84)) := rfl

theorem add_zero (b : Nat) (x : Int) (w : World) :
    Calls Tryz.prog 65 #[.pointer (some ⟨b, 0, none⟩), .int .u8 x, .int .i64 0] w fun e w' => e = .returned (.tuple #[]) ∧ w = w' := by
  go_enter Tryz.func65, Tryz.ntmps65
  go_wp2
  refine bodyPost_ret (results_none rfl _ _ _) rfl ?_
  exact ⟨rfl, rfl⟩

theorem or8 (x y : Nat) (hx : x < 256) (hy : y < 256) : bits BinOp.or IntKind.u8 (y : Int) (x : Int) = ((y ||| x : Nat) : Int) := u8_or_nat y x hy hx

theorem add_plain (b n c : Nat) (x y : Nat) (w : World) (hc : 1 ≤ c) (hc8 : c ≤ 8) (hn : n ≤ 1000000000000)
    (h1 : w.cell? ⟨b, 65, none⟩ = some (.int .i64 n)) (h1f : w.frozen? ⟨b, 65, none⟩ = false)
    (h2 : w.cell? ⟨b, 1 + n % 512 / 8, none⟩ = some (.int .u8 y)) (h2f : w.frozen? ⟨b, 1 + n % 512 / 8, none⟩ = false)
    (hm : (n + c) % 512 ≠ 0) (hx : x < 256) (hy : y < 256) :
    Calls Tryz.prog 65 #[.pointer (some ⟨b, 0, none⟩), .int .u8 x, .int .i64 c] w fun e w' => e = .returned (.tuple #[]) ∧
      w' = ((w.setCell ⟨b, 1 + n % 512 / 8, none⟩ (.int .u8 (bits BinOp.or IntKind.u8 (y : Int) (x : Int)))).setCell ⟨b, 65, none⟩ (.int .i64 ((n : Int) + c))).drew := by
  go_enter Tryz.func65, Tryz.ntmps65
  go_wp2
  go_region
  all_goals go_wp2
  all_goals (go_end0; exact ⟨rfl, rfl⟩)


set_option maxRecDepth 100000 in
set_option maxHeartbeats 1000000 in
theorem add_full (b n c : Nat) (x y : Nat) (w W2 : World) (p : Option Addr) (cs : List Value) (hc : 1 ≤ c) (hc8 : c ≤ 8) (hn : n ≤ 1000000000000)
    (h1 : w.cell? ⟨b, 65, none⟩ = some (.int .i64 n)) (h1f : w.frozen? ⟨b, 65, none⟩ = false)
    (h2 : w.cell? ⟨b, 1 + n % 512 / 8, none⟩ = some (.int .u8 y)) (h2f : w.frozen? ⟨b, 1 + n % 512 / 8, none⟩ = false)
    (hm : (n + c) % 512 = 0) (hx : x < 256) (hy : y < 256) (hcs : cs.length = 64)
    (hW2 : W2 = ((w.setCell ⟨b, 1 + n % 512 / 8, none⟩ (.int .u8 (bits BinOp.or IntKind.u8 (y : Int) (x : Int)))).setCell ⟨b, 65, none⟩ (.int .i64 ((n : Int) + c))).drew)
    (g0 : W2.cell? ⟨b, 0, none⟩ = some (.pointer p)) (g0f : W2.frozen? ⟨b, 0, none⟩ = false) (hb : b < W2.heap.size)
    (hr : W2.rangeAt b 1 cs) (ht : W2.there b 1 64) :
    Calls Tryz.prog 65 #[.pointer (some ⟨b, 0, none⟩), .int .u8 x, .int .i64 c] w fun e w' => e = .returned (.tuple #[]) ∧
      w' = (((W2.setCell ⟨b, 0, none⟩ (.pointer (some ⟨W2.heap.size, 0, none⟩))).alloc (.cells (#[.pointer p] ++ cs.toArray) 84)).drew).setCells b 1 zeros64.toList := by
  have hld := run_loadAt_mid (P := Tryz.prog) W2.drew b 1 48 cs _ ((World.rangeAt_drew _ _ _ _).2 hr) Tryz.underlying48 rfl (by rw [info_arr, hcs])
  have hbc := fun w => build_chunk w p cs hcs
  have hbz := build_zeros
  have hbx := fun w => box_chunk w p cs
  have HR := Lib.hid hr; clear hr
  have HT := Lib.hid ht; clear ht
  go_enter Tryz.func65, Tryz.ntmps65
  have HW := Lib.hid hW2; clear hW2
  go_wp2
  go_region
  go_wp2
  rw [← HW.out]
  clear h1 h1f h2 h2f HW
  have hr := HR.out
  have ht := HT.out
  refine wp_region_any (by kernel_rfl) ?_
  change wpAny _ _ _ _ _ _ _ W2.drew
  clear hld hbc hbz hbx HR HT
  refine wpAny_take (i := 0) (v := .pointer (some ⟨b, 0, none⟩)) rfl (by kernel_rfl) (by kernel_rfl) (by kernel_rfl) (fun _ _ _ h => h) (yields_run (by rfl) (fun w => ?_)) ?_
  · go_simp
  refine wpAny_take (i := 1) (v := .pointer (some ⟨b, 0, none⟩)) rfl (by kernel_rfl) (by kernel_rfl) (by kernel_rfl) (fun _ _ _ h => h) (yields_run (by rfl) (fun w => ?_)) ?_
  · go_simp
  refine wpAny_take (i := 2) (v := .pointer (some ⟨b, 0, none⟩)) rfl (by kernel_rfl) (by kernel_rfl) (by kernel_rfl) (fun _ _ _ h => h) (yields_run (by rfl) (fun w => ?_)) ?_
  · go_simp
  refine wpAny_take (i := 5) (v := .pointer (some ⟨b, 0, none⟩)) rfl (by kernel_rfl) (by kernel_rfl) (by kernel_rfl) (fun _ _ _ h => h) (yields_run (by rfl) (fun w => ?_)) ?_
  · go_simp
  refine wpAny_take (i := 6) (v := .pointer (some ⟨b, 0, none⟩)) rfl (by kernel_rfl) (by kernel_rfl) (by kernel_rfl) (fun _ _ _ h => h) (yields_run (by rfl) (fun w => ?_)) ?_
  · go_simp
  refine wpAny_take (i := 3) (v := .pointer (some ⟨b, 0, none⟩)) rfl (by kernel_rfl) (by kernel_rfl) (by kernel_rfl) (fun _ _ _ h => h) (yields_run (by rfl) (fun w => ?_)) ?_
  · go_simp
  refine wpAny_take (i := 7) (v := .pointer (some ⟨b, 1, none⟩)) rfl (by kernel_rfl) (by kernel_rfl) (by kernel_rfl) (fun _ _ _ h => h) (yields_run (by rfl) (fun w => ?_)) ?_
  · go_simp
  simp only [Act.put, List.setIfInBounds_toArray, List.set_cons_succ, List.set_cons_zero]
  refine wpAny_ready (rs := [4, 8]) (by kernel_rfl) (by simp) ?_
  refine ready_run (w' := W2.drew) (.pointer p) rfl rfl ?_ ?_ ?_
  · go_simp
  · refine wpAny_ready (rs := [8]) (by kernel_rfl) (by simp) ?_
    refine ready_run (w' := W2.drew) (.agg cs.toArray) rfl rfl ?_ ?_ AllReady.nil
    · exact exec_load_mid W2.drew _ _ b 1 48 (.tmp 45) cs _ (by kernel_rfl) (by kernel_rfl) ((World.rangeAt_drew _ _ _ _).2 hr) Tryz.underlying48 rfl (by rw [info_arr, hcs])
    refine wpAny_take (i := 9) (v := .agg (#[.pointer p] ++ cs.toArray)) rfl (by kernel_rfl) (by kernel_rfl) (by kernel_rfl) (fun _ _ _ h => h) (yields_run (by rfl) (fun w => ?_)) ?_
    · exact exec_build_chunk w _ _ (.tmp 42) (.tmp 46) p cs (by kernel_rfl) (by kernel_rfl) (by kernel_rfl) hcs
    refine wpAny_ready (rs := [10]) (by kernel_rfl) (by simp) ?_
    refine ready_run (w' := (W2.alloc (.cells (#[.pointer p] ++ cs.toArray) 84)).drew) (.pointer (some ⟨W2.heap.size, 0, none⟩)) rfl rfl (by kernel_rfl) ?_ AllReady.nil
    refine wpAny_take (i := 11) (v := .pointer (some ⟨b, 0, none⟩)) rfl (by kernel_rfl) (by kernel_rfl) (by kernel_rfl) (fun _ _ _ h => h) (yields_run (by rfl) (fun w => ?_)) ?_
    · go_simp
    refine wpAny_take (i := 12) (v := .pointer (some ⟨b, 0, none⟩)) rfl (by kernel_rfl) (by kernel_rfl) (by kernel_rfl) (fun _ _ _ h => h) (yields_run (by rfl) (fun w => ?_)) ?_
    · go_simp
    simp only [Act.put, List.setIfInBounds_toArray, List.set_cons_succ, List.set_cons_zero]
    refine wpAny_ready (rs := [13]) (by kernel_rfl) (by simp) ?_
    refine AllReady.cons rfl (fun K hK => ?_) AllReady.nil
    go_simp
    refine hK _ _ ?_
    clear hK K
    refine wpAny_done (by kernel_rfl) ?_ _
    simp only [Exit.then]
    go_wp2_with (refine wpList_store_mid rfl 48 (.tmp 54) (.tmp 52) rfl b 1 zeros64 (by kernel_rfl) (by kernel_rfl) ((World.there_drew _ _ _ _).2 (World.there_alloc (there_setCell ht _ _) _)) info_arr (by kernel_rfl) ?_)
    go_end0
    exact ⟨rfl, rfl⟩
  refine ready_run (w' := W2.drew) (.agg cs.toArray) rfl rfl ?_ ?_ AllReady.nil
  · exact exec_load_mid W2.drew _ _ b 1 48 (.tmp 45) cs _ (by kernel_rfl) (by kernel_rfl) ((World.rangeAt_drew _ _ _ _).2 hr) Tryz.underlying48 rfl (by rw [info_arr, hcs])
  refine wpAny_ready (rs := [4]) (by kernel_rfl) (by simp) ?_
  refine ready_run (w' := W2.drew) (.pointer p) rfl rfl ?_ ?_ AllReady.nil
  · go_simp
  refine wpAny_take (i := 9) (v := .agg (#[.pointer p] ++ cs.toArray)) rfl (by kernel_rfl) (by kernel_rfl) (by kernel_rfl) (fun _ _ _ h => h) (yields_run (by rfl) (fun w => ?_)) ?_
  · exact exec_build_chunk w _ _ (.tmp 42) (.tmp 46) p cs (by kernel_rfl) (by kernel_rfl) (by kernel_rfl) hcs
  refine wpAny_ready (rs := [10]) (by kernel_rfl) (by simp) ?_
  refine ready_run (w' := (W2.alloc (.cells (#[.pointer p] ++ cs.toArray) 84)).drew) (.pointer (some ⟨W2.heap.size, 0, none⟩)) rfl rfl (by kernel_rfl) ?_ AllReady.nil
  refine wpAny_take (i := 11) (v := .pointer (some ⟨b, 0, none⟩)) rfl (by kernel_rfl) (by kernel_rfl) (by kernel_rfl) (fun _ _ _ h => h) (yields_run (by rfl) (fun w => ?_)) ?_
  · go_simp
  refine wpAny_take (i := 12) (v := .pointer (some ⟨b, 0, none⟩)) rfl (by kernel_rfl) (by kernel_rfl) (by kernel_rfl) (fun _ _ _ h => h) (yields_run (by rfl) (fun w => ?_)) ?_
  · go_simp
  simp only [Act.put, List.setIfInBounds_toArray, List.set_cons_succ, List.set_cons_zero]
  refine wpAny_ready (rs := [13]) (by kernel_rfl) (by simp) ?_
  refine AllReady.cons rfl (fun K hK => ?_) AllReady.nil
  go_simp
  refine hK _ _ ?_
  clear hK K
  refine wpAny_done (by kernel_rfl) ?_ _
  simp only [Exit.then]
  go_wp2_with (refine wpList_store_mid rfl 48 (.tmp 54) (.tmp 52) rfl b 1 zeros64 (by kernel_rfl) (by kernel_rfl) ((World.there_drew _ _ _ _).2 (World.there_alloc (there_setCell ht _ _) _)) info_arr (by kernel_rfl) ?_)
  go_end0
  exact ⟨rfl, rfl⟩
end Go.Proofs.YtbpfggkpfaobhaaGreat

/-
  What a Writer is in memory, bit by bit ('WrAt'), and its inner method 'add' in these words.
-/
namespace Go.Proofs.YtbpfggkpfaobhaaGreat
open Go.RowKit
set_option linter.unusedVariables false
set_option linter.unusedSimpArgs false
set_option maxRecDepth 100000

/-- only block b may have changed, and blocks may have come -/
structure Only (b : Nat) (w w' : World) : Prop where
  os : w'.os = w.os
  tape : w'.tape = w.tape
  output : w'.output = w.output
  size : w.heap.size ≤ w'.heap.size
  block : ∀ k, k < w.heap.size → k ≠ b → w'.heap[k]? = w.heap[k]?
theorem Only.refl (b : Nat) (w : World) : Only b w w := ⟨rfl, rfl, rfl, Nat.le_refl _, fun _ _ _ => rfl⟩
theorem Only.trans {b : Nat} {x y z : World} (h : Only b x y) (k : Only b y z) : Only b x z :=
  ⟨k.os.trans h.os, k.tape.trans h.tape, k.output.trans h.output, Nat.le_trans h.size k.size, fun i hi hb => (k.block i (by have := h.size; omega) hb).trans (h.block i hi hb)⟩
theorem Only.of_below {b : Nat} {w w' : World} (h : Below w.heap.size w w') : Only b w w' := ⟨h.os, h.tape, h.output, h.size, fun k hk _ => h.block k hk⟩
theorem Only.below {b B : Nat} {w w' : World} (h : Only b w w') (hb : B ≤ b) (hB : B ≤ w.heap.size) : Below B w w' := ⟨h.os, h.tape, h.output, h.size, fun k hk => h.block k (by omega) (by omega)⟩
theorem Only.drew {b : Nat} {w w' : World} (h : Only b w w') : Only b w w'.drew := ⟨h.os, h.tape, h.output, h.size, h.block⟩

/-! ### many cells set -/
theorem os_setCells (b : Nat) : ∀ (vs : List Value) (o : Nat) (w : World), (w.setCells b o vs).os = w.os ∧ (w.setCells b o vs).tape = w.tape ∧ (w.setCells b o vs).output = w.output ∧ (w.setCells b o vs).heap.size = w.heap.size
  | [], _, _ => ⟨rfl, rfl, rfl, rfl⟩
  | v :: r, o, w => by
    obtain ⟨h1, h2, h3, h4⟩ := os_setCells b r (o + 1) (w.setCell ⟨b, o, none⟩ v)
    rw [World.setCells]
    exact ⟨h1, h2, h3, h4.trans (by simp)⟩
theorem heap_setCells_other (b k : Nat) (hk : k ≠ b) : ∀ (vs : List Value) (o : Nat) (w : World), (w.setCells b o vs).heap[k]? = w.heap[k]?
  | [], _, _ => rfl
  | v :: r, o, w => by
    rw [World.setCells, heap_setCells_other b k hk r (o + 1), heap_setCell_other _ _ _ _ hk]
theorem heap_setCells_same (b : Nat) (t : TypeId) : ∀ (vs : List Value) (o : Nat) (w : World) (cs : List Value), w.heap[b]? = some (.cells cs.toArray t (0, 0)) → o + vs.length ≤ cs.length →
    (w.setCells b o vs).heap[b]? = some (.cells (cs.take o ++ vs ++ cs.drop (o + vs.length)).toArray t (0, 0))
  | [], o, w, cs, h, _ => by simpa [World.setCells] using h
  | v :: r, o, w, cs, h, hl => by
    have h1 := heap_setCell_same w b o cs.toArray t v h
    rw [List.setIfInBounds_toArray] at h1
    rw [World.setCells, heap_setCells_same b t r (o + 1) _ _ h1 (by simp at hl ⊢; omega)]
    congr 2
    have e := list_seg_step cs o v r (by simp at hl; omega)
    rw [List.length_cons, ← e]

/-! ### a Writer -/
/-- the 64 octets of chunk q -/
def octCells (B : List Bool) (q : Nat) : List Value := (List.range 64).map fun i => Value.int .u8 (oct B (64 * q + i))
theorem octCells_length (B : List Bool) (q : Nat) : (octCells B q).length = 64 := by simp [octCells]
theorem octCells_get (B : List Bool) (q i : Nat) (h : i < 64) : (octCells B q)[i]? = some (.int .u8 (oct B (64 * q + i))) := by simp [octCells, h]
def wrCells (c : Option Addr) (B : List Bool) (n : Nat) : List Value := Value.pointer c :: (octCells B (n / 512) ++ [.int .i64 n])
theorem wrCells_length (c : Option Addr) (B : List Bool) (n : Nat) : (wrCells c B n).length = 66 := by simp [wrCells, octCells_length]
def wrObj (c : Option Addr) (B : List Bool) : Obj := .cells (wrCells c B B.length).toArray 50 (0, 0)
def chObj (c : Option Addr) (B : List Bool) (q : Nat) : Obj := .cells (Value.pointer c :: octCells B q).toArray 84 (0, 0)
def Chain (w : World) (B : List Bool) : Nat → Option Addr → Prop
  | 0, c => c = none
  | q + 1, c => ∃ d c', c = some ⟨d, 0, none⟩ ∧ w.heap[d]? = some (chObj c' B q) ∧ Chain w B q c'
/-- block b is a Writer that holds the bits B -/
def WrAt (w : World) (b : Nat) (B : List Bool) : Prop := ∃ c, w.heap[b]? = some (wrObj c B) ∧ Chain w B (B.length / 512) c

theorem wr_ne_ch (c c' : Option Addr) (B B' : List Bool) (q : Nat) : wrObj c B ≠ chObj c' B' q := by
  unfold wrObj chObj
  intro h
  injection h with h1 h2 h3
  exact absurd h2 (by decide)
theorem Chain.keep {w w' : World} {B B' : List Bool} : ∀ {q : Nat} {c : Option Addr}, Chain w B q c → (∀ (k : Nat) (c' : Option Addr) (q' : Nat), w.heap[k]? = some (chObj c' B q') → w'.heap[k]? = w.heap[k]?) → (∀ j, j < 64 * q → oct B' j = oct B j) → Chain w' B' q c
  | 0, _, h, _, _ => h
  | q + 1, c, ⟨d, c', e, hd, hc⟩, hk, ho => by
    refine ⟨d, c', e, ?_, hc.keep hk (fun j hj => ho j (by omega))⟩
    rw [hk d c' q hd, hd]
    unfold chObj octCells
    congr 4
    apply List.map_congr_left
    intro i hi
    rw [ho (64 * q + i) (by simp at hi; omega)]
theorem WrAt.lt {w : World} {b : Nat} {B : List Bool} (h : WrAt w b B) : b < w.heap.size := by
  obtain ⟨c, hc, _⟩ := h
  exact (Array.getElem?_eq_some_iff.1 hc).1
/-- a Writer stays while only another block changes that is no chunk -/
theorem WrAt.keep {w w' : World} {b b' : Nat} {B : List Bool} (h : WrAt w b B) (ho : Only b' w w') (hb : b ≠ b') (hn : ∀ c' q', w.heap[b']? ≠ some (chObj c' B q')) : WrAt w' b B := by
  have hlt := h.lt
  obtain ⟨c, hc, hch⟩ := h
  refine ⟨c, (ho.block b hlt hb).trans hc, hch.keep (fun k c' q' hk => ho.block k (Array.getElem?_eq_some_iff.1 hk).1 (fun e => ?_)) (fun _ _ => rfl)⟩
  subst e
  exact hn _ _ hk
theorem WrAt.keep_wr {w w' : World} {b b' : Nat} {B B' : List Bool} (h : WrAt w b B) (h' : WrAt w b' B') (ho : Only b' w w') (hb : b ≠ b') : WrAt w' b B :=
  h.keep ho hb (fun c' q' e => by
    obtain ⟨c, hc, _⟩ := h'
    rw [hc] at e
    injection e with e
    exact wr_ne_ch _ _ _ _ _ e)
theorem WrAt.below {w w' : World} {b : Nat} {B : List Bool} (h : WrAt w b B) (ho : Below w.heap.size w w') : WrAt w' b B := by
  have hlt := h.lt
  obtain ⟨c, hc, hch⟩ := h
  exact ⟨c, (ho.block b hlt).trans hc, hch.keep (fun k c' q' hk => ho.block k (Array.getElem?_eq_some_iff.1 hk).1) (fun _ _ => rfl)⟩

/-! ### its cells -/
theorem wrCells_head (c : Option Addr) (B : List Bool) (n : Nat) : (wrCells c B n)[0]? = some (.pointer c) := rfl
theorem wrCells_oct (c : Option Addr) (B : List Bool) (n i : Nat) (h : i < 64) : (wrCells c B n)[1 + i]? = some (.int .u8 (oct B (64 * (n / 512) + i))) := by
  unfold wrCells
  rw [Nat.add_comm, List.getElem?_cons_succ, List.getElem?_append_left (by rw [octCells_length]; exact h), octCells_get _ _ _ h]
theorem wrCells_len (c : Option Addr) (B : List Bool) (n : Nat) : (wrCells c B n)[65]? = some (.int .i64 n) := by
  unfold wrCells
  rw [show 65 = 64 + 1 from rfl, List.getElem?_cons_succ, List.getElem?_append_right (by rw [octCells_length]; omega), octCells_length]
  rfl
/-- the two stores of 'add' -/
theorem wrCells_set (c : Option Addr) (B C : List Bool) (h : C.length ≤ 8 - B.length % 8) :
    ((wrCells c B B.length).set (1 + B.length % 512 / 8) (.int .u8 (oct (B ++ C) (B.length / 8)))).set 65 (.int .i64 ((B ++ C).length : Nat)) =
      Value.pointer c :: (octCells (B ++ C) (B.length / 512) ++ [.int .i64 ((B ++ C).length : Nat)]) := by
  apply List.ext_getElem?
  intro i
  rw [List.getElem?_set, List.getElem?_set]
  rw [List.length_set, wrCells_length]
  by_cases h65 : 65 = i
  · subst h65
    rw [if_pos rfl, if_pos (by omega), show 65 = 64 + 1 from rfl, List.getElem?_cons_succ, List.getElem?_append_right (by rw [octCells_length]; omega), octCells_length]
    rfl
  · rw [if_neg h65]
    rcases Nat.lt_or_ge i 66 with hi | hi
    · cases i with
      | zero => rw [if_neg (by omega)]; rfl
      | succ i =>
        rw [List.getElem?_cons_succ, List.getElem?_append_left (by rw [octCells_length]; omega), octCells_get _ _ _ (by omega)]
        by_cases hr : 1 + B.length % 512 / 8 = i + 1
        · rw [if_pos hr, if_pos (by omega)]
          congr 4
          omega
        · rw [if_neg hr, Nat.add_comm i 1, wrCells_oct _ _ _ _ (by omega), oct_append_other _ _ _ h (by omega)]
    · rw [if_neg (by omega), List.getElem?_eq_none (by rw [wrCells_length]; omega), List.getElem?_eq_none (by simp [octCells_length]; omega)]

theorem cell_of_list {w : World} {b j : Nat} {l : List Value} {t : TypeId} {fr : Nat × Nat} {v : Value} (hb : w.heap[b]? = some (.cells l.toArray t fr)) (hv : l[j]? = some v) : w.cell? ⟨b, j, none⟩ = some v := by
  rw [cell_of_row w b j _ _ _ hb, List.getElem?_toArray, hv]
theorem octCells_zero (B : List Bool) (q : Nat) (h : B.length ≤ 512 * q) : octCells B q = zeros64.toList := by
  have hz : zeros64.toList = List.replicate 64 (Value.int .u8 0) := by unfold zeros64; exact Array.toList_replicate
  rw [hz]
  unfold octCells
  apply List.ext_getElem?
  intro i
  rcases Nat.lt_or_ge i 64 with hi | hi
  · rw [List.getElem?_replicate, if_pos hi]; simp [hi, oct_past B (64 * q + i) (by omega)]
  · simp [hi]
theorem add_abs (w : World) (b : Nat) (B C : List Bool) (x : Nat) (h : WrAt w b B) (hC : C.length ≤ 8 - B.length % 8) (hx : x = oct (List.replicate (B.length % 8) false ++ C) 0) (hn : B.length ≤ 1000000000000) :
    Calls Tryz.prog 65 #[.pointer (some ⟨b, 0, none⟩), .int .u8 x, .int .i64 C.length] w fun e w' =>
      e = .returned (.tuple #[]) ∧ WrAt w' b (B ++ C) ∧ Only b w w' := by
  by_cases hc : C = []
  · subst hc
    refine (add_zero b x w).mono ?_
    rintro e w' ⟨he, rfl⟩
    exact ⟨he, by simpa using h, Only.refl _ _⟩
  have hc1 : 1 ≤ C.length := by cases C <;> simp_all
  have hlt := h.lt
  obtain ⟨c, hb, hch⟩ := h
  unfold wrObj at hb
  have hx8 : x < 256 := by rw [hx]; exact oct_lt _ _
  have hlen : (B ++ C).length = B.length + C.length := by simp
  have e1 : 64 * (B.length / 512) + B.length % 512 / 8 = B.length / 8 := by omega
  have f65 : w.cell? ⟨b, 65, none⟩ = some (.int .i64 B.length) := by
    rw [cell_of_row w b 65 _ _ _ hb, List.getElem?_toArray, wrCells_len]
  have f0 : w.cell? ⟨b, 1 + B.length % 512 / 8, none⟩ = some (.int .u8 (oct B (B.length / 8) : Nat)) := by
    rw [cell_of_row w b _ _ _ _ hb, List.getElem?_toArray, wrCells_oct _ _ _ _ (by omega), e1]
  have fr : ∀ j, w.frozen? ⟨b, j, none⟩ = false := fun j => frozen_of_row w b j _ _ hb
  have hor : bits BinOp.or IntKind.u8 (oct B (B.length / 8) : Int) (x : Int) = (oct (B ++ C) (B.length / 8) : Nat) := by
    rw [or8 x (oct B (B.length / 8)) hx8 (oct_lt _ _), oct_append_at B C hC, hx]
  -- the world behind the two stores
  have hW : ∀ W2, W2 = ((w.setCell ⟨b, 1 + B.length % 512 / 8, none⟩ (.int .u8 (bits BinOp.or IntKind.u8 (oct B (B.length / 8) : Int) (x : Int)))).setCell ⟨b, 65, none⟩ (.int .i64 ((B.length : Int) + C.length))).drew →
      W2.heap[b]? = some (.cells (Value.pointer c :: (octCells (B ++ C) (B.length / 512) ++ [.int .i64 ((B ++ C).length : Nat)])).toArray 50 (0, 0)) ∧ Only b w W2 ∧ W2.heap.size = w.heap.size := by
    intro W2 e
    subst e
    have g1 := heap_setCell_same w b (1 + B.length % 512 / 8) _ _ (.int .u8 (bits BinOp.or IntKind.u8 (oct B (B.length / 8) : Int) (x : Int))) hb
    have g2 := heap_setCell_same _ b 65 _ _ (.int .i64 ((B.length : Int) + C.length)) g1
    refine ⟨?_, ⟨rfl, rfl, rfl, by simp, fun k hk hkb => ?_⟩, by simp⟩
    · rw [heap_drew, g2, List.setIfInBounds_toArray, List.setIfInBounds_toArray, hor]
      rw [← wrCells_set c B C hC, hlen]
      rfl
    · rw [heap_drew, heap_setCell_other _ _ _ _ hkb, heap_setCell_other _ _ _ _ hkb]
  by_cases hm : (B.length + C.length) % 512 = 0
  · obtain ⟨g1, g2, g3⟩ := hW _ rfl
    have hq : (B ++ C).length / 512 = B.length / 512 + 1 := by rw [hlen]; omega
    refine (add_full b B.length C.length x (oct B (B.length / 8)) w _ c (octCells (B ++ C) (B.length / 512)) hc1 (by omega) hn f65 (fr _) f0 (fr _) hm hx8 (oct_lt _ _) (octCells_length _ _) rfl
      (cell_of_list g1 rfl) (frozen_of_row _ b _ _ _ g1) (by omega) (fun j v hv => cell_of_list g1 ?_) (fun j hj => ⟨?_, frozen_of_row _ b _ _ _ g1⟩)).mono ?_
    · have hj : j < 64 := by have := (List.getElem?_eq_some_iff.1 hv).1; rwa [octCells_length] at this
      rw [Nat.add_comm 1 j, List.getElem?_cons_succ, List.getElem?_append_left (by rw [octCells_length]; exact hj), hv]
    · rw [cell_of_list (v := .int .u8 (oct (B ++ C) (64 * (B.length / 512) + j))) g1 (by rw [Nat.add_comm 1 j, List.getElem?_cons_succ, List.getElem?_append_left (by rw [octCells_length]; exact hj), octCells_get _ _ _ hj])]
      rfl
    rintro e w' ⟨he, hw⟩
    refine ⟨he, ?_⟩
    clear he e
    revert hw g1 g2 g3
    generalize ((w.setCell ⟨b, 1 + B.length % 512 / 8, none⟩ (.int .u8 (bits BinOp.or IntKind.u8 (oct B (B.length / 8) : Int) (x : Int)))).setCell ⟨b, 65, none⟩ (.int .i64 ((B.length : Int) + C.length))).drew = W2
    intro g1 g2 g3 hw
    clear hW
    have k1 : w' = ((((W2.setCell ⟨b, 0, none⟩ (.pointer (some ⟨W2.heap.size, 0, none⟩))).alloc (chObj c (B ++ C) (B.length / 512))).drew).setCells b 1 zeros64.toList) := by
      rw [hw]
      unfold chObj
      rw [show #[Value.pointer c] ++ (octCells (B ++ C) (B.length / 512)).toArray = (Value.pointer c :: octCells (B ++ C) (B.length / 512)).toArray by simp]
    clear hw
    subst k1
    have s1 := heap_setCell_same W2 b 0 _ _ (.pointer (some ⟨W2.heap.size, 0, none⟩)) g1
    have s2 : ((W2.setCell ⟨b, 0, none⟩ (.pointer (some ⟨W2.heap.size, 0, none⟩))).alloc (chObj c (B ++ C) (B.length / 512))).drew.heap[b]? = _ :=
      (Below.heap_alloc (W2.setCell ⟨b, 0, none⟩ (.pointer (some ⟨W2.heap.size, 0, none⟩))) (chObj c (B ++ C) (B.length / 512)) b (by rw [World.size_setCell]; omega)).trans s1
    rw [List.setIfInBounds_toArray, List.set_cons_zero] at s2
    have s3 := heap_setCells_same b _ zeros64.toList 1 _ _ s2 (by simp [zeros64, octCells_length])
    obtain ⟨t1, t2, t3, t4⟩ := os_setCells b zeros64.toList 1 ((W2.setCell ⟨b, 0, none⟩ (.pointer (some ⟨W2.heap.size, 0, none⟩))).alloc (chObj c (B ++ C) (B.length / 512))).drew
    have hO : Only b W2 ((((W2.setCell ⟨b, 0, none⟩ (.pointer (some ⟨W2.heap.size, 0, none⟩))).alloc (chObj c (B ++ C) (B.length / 512))).drew).setCells b 1 zeros64.toList) := by
      refine ⟨t1, t2, t3, ?_, fun k hk hkb => ?_⟩
      · rw [t4]; simp
      · rw [heap_setCells_other b k hkb, heap_drew, Below.heap_alloc _ _ _ (by simpa using hk), heap_setCell_other _ _ _ _ hkb]
    refine ⟨⟨some ⟨W2.heap.size, 0, none⟩, ?_, ?_⟩, g2.trans hO⟩
    · rw [s3]
      unfold wrObj wrCells
      rw [hq, octCells_zero (B ++ C) (B.length / 512 + 1) (by rw [hlen]; omega)]
      congr 3
    · rw [hq]
      refine ⟨W2.heap.size, c, rfl, ?_, ?_⟩
      · rw [heap_setCells_other b _ (by omega), heap_drew]
        have := heap_alloc_new (W2.setCell ⟨b, 0, none⟩ (.pointer (some ⟨W2.heap.size, 0, none⟩))) (chObj c (B ++ C) (B.length / 512))
        rwa [World.size_setCell] at this
      · refine hch.keep (fun k c' q' hk => ?_) (fun j hj => oct_append_before _ _ _ (by omega))
        have hkb : k ≠ b := by
          intro e; subst e
          rw [hb] at hk
          injection hk with hk
          exact wr_ne_ch c c' B B q' hk
        exact (hO.block k (by rw [g3]; exact (Array.getElem?_eq_some_iff.1 hk).1) hkb).trans (g2.block k (Array.getElem?_eq_some_iff.1 hk).1 hkb)
  · obtain ⟨g1, g2, g3⟩ := hW _ rfl
    refine (add_plain b B.length C.length x (oct B (B.length / 8)) w hc1 (by omega) hn f65 (fr _) f0 (fr _) hm hx8 (oct_lt _ _)).mono ?_
    rintro e w' ⟨he, hw⟩
    subst hw
    have hq : (B ++ C).length / 512 = B.length / 512 := by rw [hlen]; omega
    refine ⟨he, ⟨c, ?_, ?_⟩, g2⟩
    · rw [g1]; unfold wrObj wrCells; rw [hq]
    · rw [hq]
      refine hch.keep (fun k c' q' hk => g2.block k (Array.getElem?_eq_some_iff.1 hk).1 ?_) (fun j hj => oct_append_before _ _ _ (by omega))
      intro e; subst e
      rw [hb] at hk
      injection hk with hk
      exact wr_ne_ch c c' B B q' hk
end Go.Proofs.YtbpfggkpfaobhaaGreat

/-
  A Writer's methods Put, Align, Octets, Len, Bytes, in the words of its bits.
-/
namespace Go.Proofs.YtbpfggkpfaobhaaGreat
open Go.RowKit
set_option linter.unusedVariables false
set_option linter.unusedSimpArgs false
set_option maxRecDepth 100000

theorem oct_one : ∀ u, u < 8 → ∀ t : Bool, oct (List.replicate u false ++ [t]) 0 = t.toNat * 2 ^ (7 - u) := by decide
theorem bit_one (v s : Nat) : v / 2 ^ s % 256 &&& 1 = (v.testBit s).toNat := by
  rw [Nat.testBit_eq_decide_div_mod_eq, nat_mask1, Nat.mod_mod_of_dvd _ (by decide : 2 ∣ 256)]
  have : v / 2 ^ s % 2 < 2 := Nat.mod_lt _ (by omega)
  by_cases h : v / 2 ^ s % 2 = 1
  · simp [h]
  · have h0 : v / 2 ^ s % 2 = 0 := by omega
    simp [h0]
theorem put_arg (v s n : Nat) : bits BinOp.and IntKind.u8 ((v : Int) / 2 ^ s % 256) 1 * 2 ^ (7 - n % 8) % 256 = ((oct (List.replicate (n % 8) false ++ [v.testBit s]) 0 : Nat) : Int) := by
  have e1 : ((v : Int) / 2 ^ s % 256) = ((v / 2 ^ s % 256 : Nat) : Int) := by
    rw [Int.natCast_emod, Int.natCast_ediv, Int.natCast_pow]; rfl
  rw [e1, show (1 : Int) = ((1 : Nat) : Int) from rfl, u8_and_nat _ _ (Nat.mod_lt _ (by omega)) (by omega), bit_one, oct_one _ (Nat.mod_lt _ (by omega))]
  have hlt : (v.testBit s).toNat * 2 ^ (7 - n % 8) < 256 := by
    have h1 : (v.testBit s).toNat ≤ 1 := by cases v.testBit s <;> simp
    have h2 : 2 ^ (7 - n % 8) ≤ 2 ^ 7 := Nat.pow_le_pow_right (by omega) (by omega)
    have := Nat.mul_le_mul h1 h2
    omega
  have h3 := congrArg (fun n : Nat => (n : Int)) (Nat.mod_eq_of_lt hlt)
  simp only [Int.natCast_emod, Int.natCast_mul, Int.natCast_pow] at h3
  rw [Int.natCast_mul, Int.natCast_pow]
  exact h3
theorem WrAt.len65 {w : World} {b : Nat} {B : List Bool} (h : WrAt w b B) : w.cell? ⟨b, 65, none⟩ = some (.int .i64 B.length) := by
  obtain ⟨c, hb, _⟩ := h
  exact cell_of_list hb (wrCells_len _ _ _)
theorem put_ok (w : World) (b : Nat) (B : List Bool) (v k : Nat) (h : WrAt w b B) (hk : k ≤ 64) (hv : v < 2 ^ k) (hn : B.length ≤ 100000000000) :
    Calls Tryz.prog 45 #[.pointer (some ⟨b, 0, none⟩), .int .u64 v, .int .i64 k] w fun e w' =>
      e = .returned (.int .i64 0) ∧ WrAt w' b (B ++ nb v k) ∧ Only b w w' := by
  go_enter Tryz.func45, Tryz.ntmps45
  have hz : ((v : Int) / 2 ^ k != 0) = false := by
    have : (v : Int) / 2 ^ k = 0 := by
      rw [Int.ediv_eq_zero_of_lt (by omega) (by exact_mod_cast hv)]
    simp [this]
  have hw1 : widthB k = true := by simp [widthB]; omega
  go_wp2_with (go_at_call 26; refine (isWidth_any _ _).mono ?_; rintro e w' ⟨rfl, rfl⟩)
  go_loopw [23] (fun i wr => ∃ j : Nat, j ≤ k ∧ i = .int .i64 j ∧ WrAt wr b (B ++ (nb v k).take j) ∧ Only b w wr) (fun i _ => k - (intOf i).toNat)
  case atStart => exact ⟨0, Nat.zero_le _, rfl, by simpa using h, Only.refl _ _⟩
  case round =>
    obtain ⟨j, hj, rfl, hwr, hon⟩ := hrel
    have hlen : (B ++ (nb v k).take j).length = B.length + j := by simp [nb_length]; omega
    by_cases hlt : j < k
    · have h65 := hwr.len65
      rw [hlen] at h65
      have HWR := Lib.hid hwr
      have HON := Lib.hid hon
      have HL := Lib.hid hlen
      clear hwr hon hlen
      go_wp2_with fail
      rw [show (B.length + j) % 8 = (B.length + j) % 8 from rfl, put_arg v (k - 1 - j) (B.length + j)]
      have hx := HL.out
      refine (add_abs wr b _ [v.testBit (k - 1 - j)] _ HWR.out (by rw [hx]; simp; omega) (by rw [hx]) (by rw [hx]; omega)).mono ?_
      rintro e w' ⟨rfl, hwr', hon'⟩
      rw [List.append_assoc, ← nb_take_succ v k j hlt] at hwr'
      have HWR' := Lib.hid hwr'
      have HON' := Lib.hid (HON.out.trans hon')
      clear hwr' hon' hx HWR HON HL h65
      go_wp2_with fail
      go_roundw
      case rel => exact ⟨j + 1, by omega, by go_num, HWR'.out, HON'.out⟩
      case measure => simp [intOf]; omega
    · obtain rfl : j = k := by omega
      have hwr' : WrAt wr b (B ++ nb v j) := by rwa [List.take_of_length_le (by rw [nb_length]; omega)] at hwr
      have HWR' := Lib.hid hwr'
      have HON' := Lib.hid hon
      clear hwr hon hlen hwr'
      go_wp2_with fail
      go_ret
      exact ⟨rfl, HWR'.out, HON'.out⟩

theorem put_wide (w : World) (b : Nat) (v : Nat) (z : Int) (hz : widthB z = false) :
    Calls Tryz.prog 45 #[.pointer (some ⟨b, 0, none⟩), .int .u64 v, .int .i64 z] w fun e w' => e = .returned (.int .i64 1) ∧ w = w' := by
  go_enter Tryz.func45, Tryz.ntmps45
  go_wp2_with (go_at_call 26; refine (isWidth_any _ _).mono ?_; rintro e w' ⟨rfl, rfl⟩)
  go_ret
  exact ⟨rfl, rfl⟩
theorem put_big (w : World) (b : Nat) (v k : Nat) (hk : k ≤ 64) (hv : 2 ^ k ≤ v) :
    Calls Tryz.prog 45 #[.pointer (some ⟨b, 0, none⟩), .int .u64 v, .int .i64 k] w fun e w' => e = .returned (.int .i64 1) ∧ w = w' := by
  go_enter Tryz.func45, Tryz.ntmps45
  have hz : ((v : Int) / 2 ^ k != 0) = true := by
    have h1 : 1 ≤ v / 2 ^ k := by
      have := Nat.div_le_div_right (c := 2 ^ k) hv
      rwa [Nat.div_self (Nat.two_pow_pos k)] at this
    have h2 : (v : Int) / 2 ^ k = ((v / 2 ^ k : Nat) : Int) := by rw [Int.natCast_ediv, Int.natCast_pow]; rfl
    rw [h2]
    simp; omega
  have hw1 : widthB k = true := by simp [widthB]; omega
  go_wp2_with (go_at_call 26; refine (isWidth_any _ _).mono ?_; rintro e w' ⟨rfl, rfl⟩)
  go_ret
  exact ⟨rfl, rfl⟩
theorem put_nil (w : World) (v z : Int) :
    Calls Tryz.prog 45 #[.pointer none, .int .u64 v, .int .i64 z] w fun e w' => e = .returned (.int .i64 1) ∧ w = w' := by
  go_enter Tryz.func45, Tryz.ntmps45
  go_wp2_with fail
  go_ret
  exact ⟨rfl, rfl⟩

theorem oct_false (m : Nat) : oct (List.replicate m false) 0 = 0 := by
  apply Nat.eq_of_testBit_eq
  intro i
  rw [oct_testBit, List.getD_eq_getElem?_getD, List.getElem?_replicate]
  split <;> simp
theorem align_ok (w : World) (b : Nat) (B : List Bool) (h : WrAt w b B) (hn : B.length ≤ 100000000000) :
    Calls Tryz.prog 75 #[.pointer (some ⟨b, 0, none⟩)] w fun e w' => e = .returned (.tuple #[]) ∧ WrAt w' b (padded B) ∧ Only b w w' := by
  have h65 := h.len65
  go_enter Tryz.func75, Tryz.ntmps75
  have HW := Lib.hid h
  clear h
  go_wp2_with (go_at_call 82; refine (gap_any _ _ (by omega)).mono ?_; rintro e w' ⟨rfl, rfl⟩)
  have hx := add_abs w b B (List.replicate ((8 - B.length % 8) % 8) false) 0 HW.out (by simp; omega) (by rw [List.replicate_append_replicate, oct_false]) (by omega)
  rw [List.length_replicate] at hx
  refine hx.mono ?_
  rintro e w' ⟨rfl, h1, h2⟩
  have H1 := Lib.hid h1
  have H2 := Lib.hid h2
  clear h1 h2 hx
  go_wp2_with fail
  go_end0
  exact ⟨rfl, H1.out, H2.out⟩
theorem align_nil (w : World) : Calls Tryz.prog 75 #[.pointer none] w fun e w' => e = .returned (.tuple #[]) ∧ w = w' := by
  go_enter Tryz.func75, Tryz.ntmps75
  go_wp2_with fail
  go_end0
  exact ⟨rfl, rfl⟩
theorem len_ok (w : World) (b : Nat) (B : List Bool) (h : WrAt w b B) :
    Calls Tryz.prog 21 #[.pointer (some ⟨b, 0, none⟩)] w fun e w' => e = .returned (.int .i64 B.length) ∧ w = w' := by
  have h65 := h.len65
  go_enter Tryz.func21, Tryz.ntmps21
  clear h
  go_wp2_with fail
  go_ret
  exact ⟨rfl, rfl⟩
theorem len_nil (w : World) : Calls Tryz.prog 21 #[.pointer none] w fun e w' => e = .returned (.int .i64 0) ∧ w = w' := by
  go_enter Tryz.func21, Tryz.ntmps21
  go_wp2_with fail
  go_ret
  exact ⟨rfl, rfl⟩

/-- octets l lie in block g from offset o on -/
structure DataAt (w : World) (g o : Nat) (l : List Nat) : Prop where
  cell : ∀ i, i < l.length → w.cell? ⟨g, o + i, none⟩ = some (.int .u8 (l.getD i 0 : Nat))
  byte : ∀ i, l.getD i 0 < 256
theorem DataAt.keep {w w' : World} {g o b : Nat} {l : List Nat} (h : DataAt w g o l) (ho : Only b w w') (hg : g ≠ b) : DataAt w' g o l :=
  ⟨fun i hi => by
    have hc := h.cell i hi
    rw [← hc]
    exact World.cell?_of_block (w := w) (ho.block g (World.block_lt_of_cell? w _ hc) hg), h.byte⟩
theorem DataAt.below {w w' : World} {g o : Nat} {l : List Nat} (h : DataAt w g o l) (ho : Below w.heap.size w w') : DataAt w' g o l :=
  ⟨fun i hi => by
    have hc := h.cell i hi
    rw [← hc]
    exact World.cell?_of_block (w := w) (ho.block g (World.block_lt_of_cell? w _ hc)), h.byte⟩

theorem oct_first : ∀ u, u < 8 → ∀ o, o < 256 → oct (List.replicate u false ++ (nb o 8).take (8 - u)) 0 = o / 2 ^ u := by
  intro u hu o ho
  apply Nat.eq_of_testBit_eq
  intro i
  rw [oct_testBit, Nat.testBit_div_two_pow]
  rcases Nat.lt_or_ge i 8 with hi | hi
  · simp only [hi, decide_true, Bool.true_and]
    rw [List.getD_eq_getElem?_getD]
    rcases Nat.lt_or_ge (8 * 0 + (7 - i)) u with h | h
    · rw [List.getElem?_append_left (by simpa using h), List.getElem?_replicate, if_pos h]
      have : o < 2 ^ (i + u) := Nat.lt_of_lt_of_le ho (by have := Nat.pow_le_pow_right (n := 2) (by omega) (show 8 ≤ i + u by omega); simpa using this)
      rw [Nat.testBit_lt_two_pow this]; rfl
    · rw [List.getElem?_append_right (by simpa using h), List.length_replicate, List.getElem?_take, if_pos (by omega), ← List.getD_eq_getElem?_getD, nb_getD _ _ _ (by omega)]
      congr 1; omega
  · have h1 : o < 2 ^ (i + u) := Nat.lt_of_lt_of_le ho (by have := Nat.pow_le_pow_right (n := 2) (by omega) (show 8 ≤ i + u by omega); simpa using this)
    rw [Nat.testBit_lt_two_pow h1]
    simp; omega
theorem oct_second : ∀ u, u < 8 → ∀ o, o < 256 → oct ((nb o 8).drop (8 - u)) 0 = o * 2 ^ (8 - u) % 256 := by
  intro u hu o ho
  apply Nat.eq_of_testBit_eq
  intro i
  rw [oct_testBit, show 256 = 2 ^ 8 from rfl, Nat.testBit_mod_two_pow]
  rcases Nat.lt_or_ge i 8 with hi | hi
  · simp only [hi, decide_true, Bool.true_and]
    rw [Nat.testBit_mul_two_pow, List.getD_eq_getElem?_getD, List.getElem?_drop]
    rcases Nat.lt_or_ge i (8 - u) with h | h
    · rw [List.getElem?_eq_none (by rw [nb_length]; omega)]
      simp; omega
    · rw [← List.getD_eq_getElem?_getD, nb_getD _ _ _ (by omega)]
      simp [h]
      congr 1; omega
  · have : ¬ i < 8 := by omega
    simp [this]
theorem bitsOf_take_succ (l : List Nat) (k : Nat) (h : k < l.length) : bitsOf (l.take (k + 1)) = bitsOf (l.take k) ++ nb (l.getD k 0) 8 := by
  rw [List.take_succ_eq_append_getElem h, bitsOf_append]
  simp [bitsOf, List.getD_eq_getElem?_getD, h]

theorem woctets_at (w : World) (b : Nat) (B : List Bool) (g o cap : Nat) (l : List Nat) (h : WrAt w b B) (hd : DataAt w g o l) (hg : g ≠ b) (hn : B.length ≤ 10000000000) (hl : l.length ≤ 1000000000) :
    Calls Tryz.prog 42 #[.pointer (some ⟨b, 0, none⟩), .slice (some ⟨g, o, none⟩) l.length cap] w fun e w' =>
      e = .returned (.int .i64 0) ∧ WrAt w' b (B ++ bitsOf l) ∧ Only b w w' := by
  have h65 := h.len65
  have HW := Lib.hid h
  have HD := Lib.hid hd
  clear h hd
  go_enter Tryz.func42, Tryz.ntmps42
  go_wp2_with fail
  go_loopw [17] (fun i wr => ∃ j : Nat, j ≤ l.length ∧ i = .int .i64 j ∧ WrAt wr b (B ++ bitsOf (l.take j)) ∧ Only b w wr) (fun i _ => l.length - (intOf i).toNat)
  case atStart => exact ⟨0, Nat.zero_le _, rfl, by simpa [bitsOf] using HW.out, Only.refl _ _⟩
  case round =>
    obtain ⟨j, hj, rfl, hwr, hon⟩ := hrel
    have hlen : (B ++ bitsOf (l.take j)).length = B.length + 8 * j := by simp [bitsOf_length]; omega
    by_cases hlt : j < l.length
    · have hc := (HD.out.keep hon hg).cell j hlt
      have hb8 := HD.out.byte j
      obtain ⟨x, hx⟩ : ∃ x, l.getD j 0 = x := ⟨_, rfl⟩
      rw [hx] at hc hb8
      have HX := Lib.hid hx
      have HL := Lib.hid hlen
      have HWR := Lib.hid hwr
      have HON := Lib.hid hon
      clear hwr hon hlen h65 hx
      go_wp2_with fail
      have hu : B.length % 8 < 8 := Nat.mod_lt _ (by omega)
      have hA : ((x : Int) / 2 ^ (B.length % 8)) = ((x / 2 ^ (B.length % 8) : Nat) : Int) := by rw [Int.natCast_ediv, Int.natCast_pow]; rfl
      have hB : (8 - (B.length : Int) % 8) = (((nb x 8).take (8 - B.length % 8)).length : Nat) := by rw [List.length_take, nb_length]; omega
      have hm : (B ++ bitsOf (l.take j)).length % 8 = B.length % 8 := by rw [HL.out]; omega
      have c1 := add_abs wr b _ ((nb x 8).take (8 - B.length % 8)) (x / 2 ^ (B.length % 8)) HWR.out (by rw [hm, List.length_take, nb_length]; omega) (by rw [hm, oct_first _ hu _ hb8]) (by rw [HL.out]; omega)
      rw [← hA, ← hB] at c1
      refine c1.mono ?_
      rintro e w1 ⟨rfl, hw1, ho1⟩
      have HW1 := Lib.hid hw1
      have HO1 := Lib.hid ho1
      clear c1 hA hB hm hw1 ho1 hc
      go_wp2_with fail
      have hlen1 : (B ++ bitsOf (l.take j) ++ (nb x 8).take (8 - B.length % 8)).length = B.length + 8 * j + (8 - B.length % 8) := by
        rw [List.length_append, HL.out, List.length_take, nb_length]; omega
      have hm : (B ++ bitsOf (l.take j) ++ (nb x 8).take (8 - B.length % 8)).length % 8 = 0 := by rw [hlen1]; omega
      have hA : ((x : Int) * 2 ^ (8 - B.length % 8) % 256) = ((x * 2 ^ (8 - B.length % 8) % 256 : Nat) : Int) := by rw [Int.natCast_emod, Int.natCast_mul, Int.natCast_pow]; rfl
      have hB : ((B.length : Int) % 8) = (((nb x 8).drop (8 - B.length % 8)).length : Nat) := by rw [List.length_drop, nb_length]; omega
      have c2 := add_abs w1 b _ ((nb x 8).drop (8 - B.length % 8)) (x * 2 ^ (8 - B.length % 8) % 256) HW1.out (by rw [hm, List.length_drop, nb_length]; omega) (by rw [hm, ← oct_second _ hu _ hb8]; rfl) (by rw [hlen1]; omega)
      rw [← hA, ← hB] at c2
      refine c2.mono ?_
      rintro e w2 ⟨rfl, hw2, ho2⟩
      rw [List.append_assoc, List.append_assoc, List.take_append_drop, ← HX.out, ← bitsOf_take_succ l j hlt] at hw2
      have HW2 := Lib.hid hw2
      have HO2 := Lib.hid ((HON.out.trans HO1.out).trans ho2)
      clear c2 hA hB hm hw2 ho2 hlen1 HW1 HO1 HL HX HON HWR hu hb8
      go_wp2_with fail
      go_roundw
      case rel => exact ⟨j + 1, by omega, by go_num, HW2.out, HO2.out⟩
      case measure => simp [intOf]; omega
    · obtain rfl : j = l.length := by omega
      have hwr' : WrAt wr b (B ++ bitsOf l) := by rwa [List.take_of_length_le (Nat.le_refl _)] at hwr
      have HWR' := Lib.hid hwr'
      have HON' := Lib.hid hon
      clear hwr hon hlen hwr' h65
      go_wp2_with fail
      go_ret
      exact ⟨rfl, HWR'.out, HON'.out⟩
theorem woctets_none (w : World) (b : Nat) (B : List Bool) (a : Option Addr) (cap : Nat) (h : WrAt w b B) :
    Calls Tryz.prog 42 #[.pointer (some ⟨b, 0, none⟩), .slice a 0 cap] w fun e w' => e = .returned (.int .i64 0) ∧ w = w' := by
  have h65 := h.len65
  clear h
  go_enter Tryz.func42, Tryz.ntmps42
  go_wp2_with fail
  refine wp_loop_once ?_
  go_wp2_with fail
  go_ret
  exact ⟨rfl, rfl⟩
theorem woctets_nil (w : World) (s : Value) :
    Calls Tryz.prog 42 #[.pointer none, s] w fun e w' => e = .returned (.int .i64 1) ∧ w = w' := by
  go_enter Tryz.func42, Tryz.ntmps42
  go_wp2_with fail
  go_ret
  exact ⟨rfl, rfl⟩
end Go.Proofs.YtbpfggkpfaobhaaGreat

/-
  A Writer's method Bytes.
-/
namespace Go.Proofs.YtbpfggkpfaobhaaGreat
open Go.RowKit
set_option linter.unusedVariables false
set_option linter.unusedSimpArgs false
set_option maxRecDepth 100000

def u8s (l : List Nat) : List Value := l.map fun x : Nat => Value.int .u8 (x : Int)
/-- N octets, those from 64 q on as in B, the others 0 -/
def rowAt (B : List Bool) (N q : Nat) : List Value := (List.range N).map fun i => if 64 * q ≤ i then Value.int .u8 (oct B i) else Value.int .u8 0
theorem rowAt_length (B : List Bool) (N q : Nat) : (rowAt B N q).length = N := by simp [rowAt]
theorem rowAt_get (B : List Bool) (N q i : Nat) (h : i < N) : (rowAt B N q)[i]? = some (if 64 * q ≤ i then Value.int .u8 (oct B i) else Value.int .u8 0) := by simp [rowAt, h]
theorem rowAt_zero (B : List Bool) : rowAt B ((B.length + 7) / 8) 0 = u8s (octs B) := by
  simp [rowAt, u8s, octs]
theorem rowAt_new (B : List Bool) (N q : Nat) (h : N ≤ 64 * q) : rowAt B N q = List.replicate N (Value.int .u8 0) := by
  apply List.ext_getElem?
  intro i
  rcases Nat.lt_or_ge i N with hi | hi
  · rw [rowAt_get _ _ _ _ hi, if_neg (by omega), List.getElem?_replicate, if_pos hi]
  · rw [List.getElem?_eq_none (by rw [rowAt_length]; exact hi), List.getElem?_eq_none (by simpa using hi)]
theorem rowAt_step (B : List Bool) (N q : Nat) (cs : List Value) (hcs : cs = (octCells B q).take (N - 64 * q)) : splice (rowAt B N (q + 1)) (64 * q) cs = rowAt B N q := by
  have hl : cs.length = min (N - 64 * q) 64 := by rw [hcs, List.length_take, octCells_length]
  apply List.ext_getElem?
  intro i
  unfold splice
  rcases Nat.lt_or_ge i N with hi | hi
  · rw [rowAt_get _ _ _ _ hi]
    rcases Nat.lt_or_ge i (64 * q) with h1 | h1
    · rw [List.getElem?_append_left (by rw [List.length_take, rowAt_length]; omega), List.getElem?_take, if_pos h1, rowAt_get _ _ _ _ hi, if_neg (by omega), if_neg (by omega)]
    · rw [List.getElem?_append_right (by rw [List.length_take, rowAt_length]; omega), List.length_take, rowAt_length, if_pos h1]
      have hm : min (64 * q) N = 64 * q := by omega
      rw [hm]
      rcases Nat.lt_or_ge (i - 64 * q) cs.length with h2 | h2
      · rw [List.getElem?_append_left h2, hcs, List.getElem?_take, if_pos (by omega), octCells_get _ _ _ (by omega)]
        congr 4; omega
      · rw [List.getElem?_append_right h2, List.getElem?_drop, rowAt_get _ _ _ _ (by omega), if_pos (by omega)]
        congr 4; omega
  · rw [List.getElem?_eq_none (by simp [rowAt_length]; omega), List.getElem?_eq_none (by rw [rowAt_length]; exact hi)]

theorem info_u8 : (Tryz.prog.info? 5).map (fun i => (i.zero, i.size, i.bytes)) = some (some (.int .u8 0), 1, 1) := by kernel_rfl
theorem made_u8 (N : Nat) : madeCells (Value.int .u8 0).cells N = (List.replicate N (Value.int .u8 0)).toArray := by
  unfold madeCells
  apply Array.ext
  · simp
  · intro k h1 h2
    simp [Value.cells, Nat.mod_one]
theorem run_make_u8 (w : World) (N : Nat) (h : N ≤ 281474976710656) :
    (Instr.makeSlice 22 (.int .i64 (N : Int)) (.int .i64 (N : Int))).run Tryz.prog w = .ok (.slice (some ⟨w.heap.size, 0, none⟩) N N) (w.alloc (.cells (List.replicate N (Value.int .u8 0)).toArray 5)) := by
  obtain ⟨i, h2, h3, h4, h5⟩ := info_parts info_u8
  have := run_make (P := Tryz.prog) w 22 5 i (.int .u8 0) Tryz.underlying22 h2 h3 .i64 .i64 N N (by omega) (Int.le_refl _) (by rw [h5]; omega) (by omega)
  rw [this, h4]
  simp only [Int.toNat_natCast, Nat.mul_one, made_u8]
theorem wpList_make_u8 {ops : Array Oper} {rest : List Oper} {o : Oper} {a : Act} {Q : Exit → Act → World → Prop} {w : World} (hg : o.guard = none) (x y : Operand) (hop : o.op = Op.makeSlice 22 x y)
    (N : Nat) (h : N ≤ 281474976710656) (hx : a.eval x = .int .i64 N) (hy : a.eval y = .int .i64 N)
    (hK : ∀ w1 : World, w1.heap[w.heap.size]? = some (.cells (List.replicate N (Value.int .u8 0)).toArray 5 (0, 0)) → Below w.heap.size w w1 → w.heap.size < w1.heap.size →
      wpList Tryz.prog ops Q rest (a.put o.dst (.slice (some ⟨w.heap.size, 0, none⟩) N N)) w1) : wpList Tryz.prog ops Q (o :: rest) a w := by
  refine wpList_plain hg fun K hK' => ?_
  unfold Oper.wp
  simp [execOp, hop, hx, hy, run_make_u8 w N h, Result.andThen]
  exact hK' _ _ (hK _ (heap_alloc_new w _) ((Below.refl _ _).alloc (Nat.le_refl _) _) (by simp))

theorem give_len (B : List Bool) (hT : ((B.length : Int) / 512 * 64).toNat = 64 * (B.length / 512)) :
    ((octCells B (B.length / 512)).take ((B.length + 7) / 8 - 64 * (B.length / 512))).length = Nat.min 64 ((B.length + 7) / 8 - ((B.length : Int) / 512 * 64).toNat) := by
  rw [hT, List.length_take, octCells_length, Nat.min_comm]
theorem give_pos (B : List Bool) (b g : Nat) (w : World) (c : Option Addr) (hc : w.heap[b]? = some (wrObj c B)) (hT : ((B.length : Int) / 512 * 64).toNat = 64 * (B.length / 512)) :
    0 < ((octCells B (B.length / 512)).take ((B.length + 7) / 8 - 64 * (B.length / 512))).length →
      (if (B.length + 7) / 8 = ((B.length : Int) / 512 * 64).toNat then some (⟨g, 0, none⟩ : Addr) else some ⟨g, ((B.length : Int) / 512 * 64).toNat, none⟩) = some ⟨g, 64 * (B.length / 512), none⟩ ∧
      ∃ ad, (some (⟨b, 1, none⟩ : Addr)) = some ad ∧ ∀ j v, ((octCells B (B.length / 512)).take ((B.length + 7) / 8 - 64 * (B.length / 512)))[j]? = some v → w.cell? (ad.add j) = some v := by
  intro h
  rw [List.length_take, octCells_length] at h
  refine ⟨by rw [hT, if_neg (by omega)], ⟨b, 1, none⟩, rfl, fun j v hv => ?_⟩
  rw [Addr.add_mid]
  rw [List.getElem?_take] at hv
  split at hv
  · refine cell_of_list hc ?_
    unfold wrCells
    rw [Nat.add_comm 1 j, List.getElem?_cons_succ, List.getElem?_append_left (List.getElem?_eq_some_iff.1 hv).1, hv]
  · cases hv
theorem give_fit (B : List Bool) : 64 * (B.length / 512) + ((octCells B (B.length / 512)).take ((B.length + 7) / 8 - 64 * (B.length / 512))).length ≤ (List.replicate ((B.length + 7) / 8) (Value.int .u8 0)).length := by
  rw [List.length_take, octCells_length, List.length_replicate]; omega
theorem give_one (B : List Bool) (q m : Nat) : ∀ v ∈ (octCells B q).take m, v.oneCell' = true := by
  intro v hv
  have := List.mem_of_mem_take hv
  unfold octCells at this
  simp only [List.mem_map] at this
  obtain ⟨i, _, rfl⟩ := this
  rfl

theorem give2_len (B : List Bool) (q : Nat) : ((octCells B q).take ((B.length + 7) / 8 - 64 * q)).length = Nat.min 64 ((B.length + 7) / 8 - (64 * (q : Int)).toNat) := by
  have hT : (64 * (q : Int)).toNat = 64 * q := by omega
  rw [hT, List.length_take, octCells_length, Nat.min_comm]
theorem give2_pos (B : List Bool) (d g q : Nat) (w : World) (c : Option Addr) (hc : w.heap[d]? = some (chObj c B q)) :
    0 < ((octCells B q).take ((B.length + 7) / 8 - 64 * q)).length →
      (if (B.length + 7) / 8 = (64 * (q : Int)).toNat then some (⟨g, 0, none⟩ : Addr) else some ⟨g, (64 * (q : Int)).toNat, none⟩) = some ⟨g, 64 * q, none⟩ ∧
      ∃ ad, (some (⟨d, 1, none⟩ : Addr)) = some ad ∧ ∀ j v, ((octCells B q).take ((B.length + 7) / 8 - 64 * q))[j]? = some v → w.cell? (ad.add j) = some v := by
  intro h
  have hT : (64 * (q : Int)).toNat = 64 * q := by omega
  rw [List.length_take, octCells_length] at h
  refine ⟨by rw [hT, if_neg (by omega)], ⟨d, 1, none⟩, rfl, fun j v hv => ?_⟩
  rw [Addr.add_mid]
  rw [List.getElem?_take] at hv
  split at hv
  · refine cell_of_list hc ?_
    rw [Nat.add_comm 1 j, List.getElem?_cons_succ, hv]
  · cases hv
theorem give2_fit (B : List Bool) (q : Nat) (h : 64 * q ≤ (B.length + 7) / 8) : 64 * q + ((octCells B q).take ((B.length + 7) / 8 - 64 * q)).length ≤ (rowAt B ((B.length + 7) / 8) (q + 1)).length := by
  rw [List.length_take, octCells_length, rowAt_length]; omega
theorem wbytes_ok (w : World) (b : Nat) (B : List Bool) (h : WrAt w b B) (hB : B ≠ []) (hn : B.length ≤ 100000000000) :
    Calls Tryz.prog 22 #[.pointer (some ⟨b, 0, none⟩)] w fun e w' =>
      e = .returned (.slice (some ⟨w.heap.size, 0, none⟩) ((B.length + 7) / 8) ((B.length + 7) / 8)) ∧ w'.heap[w.heap.size]? = some (.cells (u8s (octs B)).toArray 5 (0, 0)) ∧ Below w.heap.size w w' := by
  have h65 := h.len65
  have hpos : 0 < B.length := by cases B <;> simp_all
  have HW := Lib.hid h
  have he : ((B.length : Int) == 0) = false := by simp; omega
  have eN : ((B.length : Int) + 7) / 8 = (((B.length + 7) / 8 : Nat) : Int) := by omega
  have EN := Lib.hid eN
  have hlt := h.lt
  clear h hB eN
  go_enter Tryz.func22, Tryz.ntmps22
  go_wp2_with (at_make; refine wpList_make_u8 rfl (.tmp 21) (.tmp 21) rfl ((B.length + 7) / 8) (by omega) (congrArg (Value.int .i64) EN.out) (congrArg (Value.int .i64) EN.out) ?_; intro w1 hG hbl hsz; have h65' := (HW.out.below hbl).len65; have HG := Lib.hid hG; have HBL := Lib.hid hbl; clear hG hbl h65)
  have hs0 : 0 ≤ (B.length : Int) / 512 * 64 := by omega
  have hs1 : (B.length : Int) / 512 * 64 ≤ ((B.length : Int) + 7) / 8 := by omega
  have hT : Hid (((B.length : Int) / 512 * 64).toNat = 64 * (B.length / 512)) := by show _ = _; omega
  obtain ⟨c, hc0, hch⟩ := HW.out
  have hc : w1.heap[b]? = some (wrObj c B) := (HBL.out.block b hlt).trans hc0
  have HC := Lib.hid hc
  have HCH := Lib.hid hch
  clear hc hch hc0
  go_region_law (refine step_copy_splice rfl (.tmp 31) (.tmp 35) 22 22 rfl 5 Tryz.underlying22 (by kernel_rfl) (if (B.length + 7) / 8 = ((B.length : Int) / 512 * 64).toNat then some ⟨w.heap.size, 0, none⟩ else some ⟨w.heap.size, ((B.length : Int) / 512 * 64).toNat, none⟩) (some ⟨b, 1, none⟩) ((B.length + 7) / 8 - ((B.length : Int) / 512 * 64).toNat) ((B.length + 7) / 8 - ((B.length : Int) / 512 * 64).toNat) 64 64 (by kernel_rfl) (by kernel_rfl) w.heap.size (64 * (B.length / 512)) (List.replicate ((B.length + 7) / 8) (Value.int .u8 0)) 5 HG.out ((octCells B (B.length / 512)).take ((B.length + 7) / 8 - 64 * (B.length / 512))) (give_len B hT.out) (give_pos B b w.heap.size w1.drew c HC.out hT.out) (give_fit B) (give_one B _ _) w.heap.size w (HBL.out.drew) (Nat.le_refl _) ?_; intro w2 hg2 hb2)
  generalize (if (B.length + 7) / 8 = ((B.length : Int) / 512 * 64).toNat then some (⟨w.heap.size, 0, none⟩ : Addr) else some ⟨w.heap.size, ((B.length : Int) / 512 * 64).toNat, none⟩) = X31
  generalize Value.int IntKind.i64 ((min ((B.length + 7) / 8 - 64 * (B.length / 512)) (octCells B (B.length / 512)).length : Nat) : Int) = X36
  have h0' : w2.cell? ⟨b, 0, none⟩ = some (.pointer c) := by
    have h1 : w2.heap[b]? = w1.heap[b]? := (hb2.block b hlt).trans (HBL.out.block b hlt).symm
    exact cell_of_list (h1.trans HC.out) rfl
  have hrow : w2.heap[w.heap.size]? = some (.cells (rowAt B ((B.length + 7) / 8) (B.length / 512)).toArray 5 (0, 0)) := by
    have := hg2.out
    rwa [← rowAt_new B ((B.length + 7) / 8) (B.length / 512 + 1) (by omega), rowAt_step _ _ _ _ rfl] at this
  have HROW := Lib.hid hrow
  have HB2 := Lib.hid hb2
  clear hrow hb2 hg2 HC HG HBL h65'
  go_wp2_with fail
  go_loopw [4, 5] (fun at_ cc wr => ∃ (q : Nat) (c' : Option Addr), at_ = .int .i64 ((64 * q : Nat) : Int) ∧ cc = .pointer c' ∧ q ≤ B.length / 512 ∧ Chain w B q c' ∧ wr.heap[w.heap.size]? = some (.cells (rowAt B ((B.length + 7) / 8) q).toArray 5 (0, 0)) ∧ Below w.heap.size w wr) (fun at_ _ _ => (intOf at_).toNat)
  case atStart => exact ⟨B.length / 512, c, by congr 1; omega, rfl, Nat.le_refl _, HCH.out, HROW.out, HB2.out⟩
  case round =>
    obtain ⟨q, c', rfl, rfl, hq, hch, hrow, hbl⟩ := hrel
    cases q with
    | zero =>
      have hc' : c' = none := hch
      subst hc'
      rw [rowAt_zero] at hrow
      have HROW' := Lib.hid hrow
      have HB' := Lib.hid hbl
      clear hch hrow hbl
      go_wp2_with fail
      go_ret
      exact ⟨rfl, HROW'.out, HB'.out⟩
    | succ q =>
      obtain ⟨d, c'', rfl, hd, hch'⟩ := hch
      have hd' : wr.heap[d]? = some (chObj c'' B q) := (hbl.block d (Array.getElem?_eq_some_iff.1 hd).1).trans hd
      have HD := Lib.hid hd'
      have HROW' := Lib.hid hrow
      have HB' := Lib.hid hbl
      have HCH' := Lib.hid hch'
      have hlt' := (Array.getElem?_eq_some_iff.1 hd).1
      clear hd hd' hrow hbl hch'
      go_wp2_with fail
      have hq0 : (0 : Int) ≤ 64 * (q : Int) := by omega
      have hq1 : 64 * (q : Int) ≤ ((B.length : Int) + 7) / 8 := by omega
      rw [show (64 * ((q : Int) + 1) - 64) = 64 * (q : Int) from by omega]
      go_region_law (refine step_copy_splice rfl (.tmp 51) (.tmp 55) 22 22 rfl 5 Tryz.underlying22 (by kernel_rfl) (if (B.length + 7) / 8 = (64 * (q : Int)).toNat then some ⟨w.heap.size, 0, none⟩ else some ⟨w.heap.size, (64 * (q : Int)).toNat, none⟩) (some ⟨d, 1, none⟩) ((B.length + 7) / 8 - (64 * (q : Int)).toNat) ((B.length + 7) / 8 - (64 * (q : Int)).toNat) 64 64 (by kernel_rfl) (by kernel_rfl) w.heap.size (64 * q) (rowAt B ((B.length + 7) / 8) (q + 1)) 5 HROW'.out ((octCells B q).take ((B.length + 7) / 8 - 64 * q)) (give2_len B q) (give2_pos B d w.heap.size q wr.drew c'' HD.out) (give2_fit B q (by omega)) (give_one B _ _) w.heap.size w (HB'.out.drew) (Nat.le_refl _) ?_; intro w3 hg3 hb3)
      have hrow3 := hg3.out
      rw [rowAt_step _ _ _ _ rfl] at hrow3
      have h0'' : w3.cell? ⟨d, 0, none⟩ = some (.pointer c'') := by
        have h1 : w3.heap[d]? = wr.heap[d]? := (hb3.block d hlt').trans (HB'.out.block d hlt').symm
        exact cell_of_list (h1.trans HD.out) rfl
      have HROW3 := Lib.hid hrow3
      have HB3 := Lib.hid hb3
      clear hrow3 hb3 hg3 HD HROW' HB' h0'
      generalize (if (B.length + 7) / 8 = (64 * (q : Int)).toNat then some (⟨w.heap.size, 0, none⟩ : Addr) else some ⟨w.heap.size, (64 * (q : Int)).toNat, none⟩) = X51
      generalize Value.int IntKind.i64 ((min ((B.length + 7) / 8 - 64 * q) (octCells B q).length : Nat) : Int) = X56
      go_wp2_with fail
      go_roundw
      case rel => exact ⟨q, c'', by congr 1, rfl, by omega, HCH'.out, HROW3.out, HB3.out⟩
      case measure => simp [intOf]; omega
end Go.Proofs.YtbpfggkpfaobhaaGreat

/-
  Slices of octets, the law's helper 'same', the Writer's Bytes where it is empty or none, and the document's example.
-/
namespace Go.Proofs.YtbpfggkpfaobhaaGreat
open Go.RowKit
set_option linter.unusedVariables false
set_option linter.unusedSimpArgs false
set_option maxRecDepth 100000

/-- a slice's value that holds the octets l -/
def SlAt (w : World) (s : Value) (l : List Nat) : Prop := (∃ g o cap, s = .slice (some ⟨g, o, none⟩) l.length cap ∧ DataAt w g o l) ∨ (l = [] ∧ ∃ a cap, s = .slice a 0 cap)
theorem SlAt.below {w w' : World} {s : Value} {l : List Nat} (h : SlAt w s l) (ho : Below w.heap.size w w') : SlAt w' s l := by
  rcases h with ⟨g, o, cap, e, hd⟩ | h
  · exact .inl ⟨g, o, cap, e, hd.below ho⟩
  · exact .inr h
def bstr (l : List Nat) : ByteArray := ⟨(l.map UInt8.ofNat).toArray⟩
theorem bstr_nums (l : List Nat) : strOfNums (l.map fun n : Nat => (n : Int)) = bstr l := by
  unfold strOfNums bstr
  congr 2
  rw [List.map_map]
  rfl
theorem conv_sl (w : World) (s : Value) (l : List Nat) (h : SlAt w s l) : (convert 22 9 s).run Tryz.prog w = .ok (.string (bstr l)) w := by
  rcases h with ⟨g, o, cap, rfl, hd⟩ | ⟨rfl, a, cap, rfl⟩
  · rw [← bstr_nums]
    refine run_convert_bytes_arg w 22 5 Tryz.underlying22 Tryz.underlying5 g o l.length cap _ (by simp) (fun i hi => ?_) 9 Tryz.underlying9
    rw [hd.cell i hi]
    simp [List.getD_eq_getElem?_getD, hi]
  · cases a with
    | none => exact run_convert_bytes_nil w 22 5 Tryz.underlying22 Tryz.underlying5 0 cap 9 Tryz.underlying9
    | some x =>
      rw [run_convert_bytes_string w 22 9 5 _ _ _ Tryz.underlying22 Tryz.underlying5 Tryz.underlying9]
      exact run_bytesToString w x 0 cap [] rfl
theorem u8s_one (l : List Nat) : ∀ u ∈ u8s l, u.oneCell' = true := by
  intro u hu
  unfold u8s at hu
  simp only [List.mem_map] at hu
  obtain ⟨i, _, rfl⟩ := hu
  rfl
/-- what Bytes tells of the bits B -/
def wb (B : List Bool) : List Nat := if B = [] then [0] else octs B
theorem wb_lt (B : List Bool) (i : Nat) : (wb B).getD i 0 < 256 := by
  unfold wb
  split
  · rcases i with _ | i <;> simp
  · unfold octs
    rw [List.getD_eq_getElem?_getD, List.getElem?_map]
    cases h : (List.range ((B.length + 7) / 8))[i]? with
    | none => simp
    | some j => simpa using oct_lt B j
theorem data_of_row (w : World) (g : Nat) (l : List Nat) (h : w.heap[g]? = some (.cells (u8s l).toArray 5 (0, 0))) (hb : ∀ i, l.getD i 0 < 256) : DataAt w g 0 l :=
  ⟨fun i hi => cell_of_list h (by unfold u8s; rw [Nat.zero_add, List.getElem?_map, List.getElem?_eq_getElem hi]; simp [List.getD_eq_getElem?_getD, hi]), hb⟩
theorem wbytes_any (w : World) (b : Nat) (B : List Bool) (h : WrAt w b B) (hn : B.length ≤ 100000000000) :
    Calls Tryz.prog 22 #[.pointer (some ⟨b, 0, none⟩)] w fun e w' =>
      e = .returned (.slice (some ⟨w.heap.size, 0, none⟩) (wb B).length (wb B).length) ∧ w'.heap[w.heap.size]? = some (.cells (u8s (wb B)).toArray 5 (0, 0)) ∧ Below w.heap.size w w' := by
  by_cases hB : B = []
  · subst hB
    have h65 := h.len65
    clear h
    go_enter Tryz.func22, Tryz.ntmps22
    go_wp2_with fail
    go_ret
    exact ⟨rfl, heap_alloc_new _ _, (Below.refl _ _).alloc (Nat.le_refl _) _⟩
  · refine (wbytes_ok w b B h hB hn).mono ?_
    rintro e w' ⟨rfl, h1, h2⟩
    unfold wb
    rw [if_neg hB, octs_length]
    exact ⟨rfl, h1, h2⟩
theorem wbytes_nil (w : World) : Calls Tryz.prog 22 #[.pointer none] w fun e w' =>
      e = .returned (.slice (some ⟨w.heap.size, 0, none⟩) 1 1) ∧ w'.heap[w.heap.size]? = some (.cells (u8s [0]).toArray 5 (0, 0)) ∧ Below w.heap.size w w' := by
  go_enter Tryz.func22, Tryz.ntmps22
  go_wp2_with fail
  go_ret
  exact ⟨rfl, heap_alloc_new _ _, (Below.refl _ _).alloc (Nat.le_refl _) _⟩
theorem sl_of_row {w : World} {g : Nat} {l : List Nat} {n : Nat} (h : w.heap[g]? = some (.cells (u8s l).toArray 5 (0, 0))) (hb : ∀ i, l.getD i 0 < 256) (hn : n = l.length) : SlAt w (.slice (some ⟨g, 0, none⟩) n n) l :=
  .inl ⟨g, 0, l.length, by rw [hn], data_of_row w g l h hb⟩

/-- a new Writer -/
def newCells : Array Value := #[.pointer none] ++ Array.replicate 64 (.int .u8 0) ++ #[.int .i64 0]
theorem build_writer (w : World) : (Instr.build 50 #[]).run Tryz.prog w = .ok (.agg newCells) w := by kernel_rfl
theorem new_obj : Obj.cells newCells 50 (0, 0) = wrObj none [] := by
  unfold wrObj wrCells
  rw [octCells_zero [] _ (by simp)]
  rfl
theorem wr_new (w : World) : WrAt (w.alloc (.cells newCells 50)) w.heap.size [] :=
  ⟨none, (heap_alloc_new w _).trans (congrArg some new_obj), rfl⟩
theorem wpList_box_writer {ops : Array Oper} {rest : List Oper} {o1 o2 : Oper} {a : Act} {Q : Exit → Act → World → Prop} {w : World} (hg1 : o1.guard = none) (hop1 : o1.op = Op.build 50 #[])
    (hg2 : o2.guard = none) (d : Tmp) (hd : o1.dst = some d) (hop2 : o2.op = Op.box 50 (.tmp d)) (hsz : (a.put (some d) (.agg newCells)).eval (.tmp d) = .agg newCells)
    (hK : ∀ w1 : World, WrAt w1 w.heap.size [] → Below w.heap.size w w1 → w.heap.size < w1.heap.size →
      wpList Tryz.prog ops Q rest ((a.put o1.dst (.agg newCells)).put o2.dst (.pointer (some ⟨w.heap.size, 0, none⟩))) w1) : wpList Tryz.prog ops Q (o1 :: o2 :: rest) a w := by
  refine wpList_plain hg1 fun K hK' => ?_
  unfold Oper.wp
  have e1 : (execOp a.eval o1).run Tryz.prog w = .ok (.value (.agg newCells)) w := by
    unfold execOp
    simp only [hop1, List.map_toArray, List.map_nil, Sem.run_bind, build_writer w, Sem.run_pure, Result.andThen_ok]
  rw [e1]
  refine hK' _ _ (wpList_plain hg2 fun K2 hK2 => ?_)
  unfold Oper.wp
  have e2 : (execOp (a.put o1.dst (.agg newCells)).eval o2).run Tryz.prog w = .ok (.value (.pointer (some ⟨w.heap.size, 0, none⟩))) (w.alloc (.cells newCells 50)) := by
    unfold execOp
    simp only [hop2, hd, hsz]
    rfl
  rw [e2]
  exact hK2 _ _ (hK _ (wr_new w) ((Below.refl _ _).alloc (Nat.le_refl _) _) (by simp))

theorem zero_writer (w : World) : (zeroValue 50).run Tryz.prog w = .ok (.agg newCells) w := by kernel_rfl
/-- a slice of integers that came in -/
def IsRow (k : IntKind) (w : World) (a : Option Addr) (len cap : Nat) (zs : List Int) : Prop :=
  (a = none ∧ len = 0 ∧ cap = 0 ∧ zs = []) ∨
  ∃ x, a = some x ∧ len ≤ cap ∧ cap ≤ maxLen ∧ zs.length = cap ∧ (∀ i, i < zs.length → w.cell? (x.add i) = some (.int k (zs.getD i 0))) ∧ ∀ n ∈ zs, (Lit.int k n).wf = true
theorem sl_of_isRow {w : World} {a : Option Addr} {len cap : Nat} {zs : List Int} (h : IsRow .u8 w a len cap zs) : ∃ l, SlAt w (.slice a len cap) l ∧ l.length = len := by
  rcases h with ⟨rfl, rfl, rfl, rfl⟩ | ⟨x, rfl, hl, hm, hz, hc, hw⟩
  · exact ⟨[], .inr ⟨rfl, _, _, rfl⟩, rfl⟩
  · by_cases h0 : len = 0
    · subst h0
      exact ⟨[], .inr ⟨rfl, _, _, rfl⟩, rfl⟩
    · have hx := hc 0 (by omega)
      obtain ⟨g, o, sp⟩ := x
      have hs : sp = none := by
        simp only [Addr.add, if_true] at hx
        unfold World.cell? at hx
        split at hx
        · simp at hx
          cases sp with
          | none => rfl
          | some _ => simp at hx
        · cases hx
      subst hs
      have hr : ∀ n ∈ zs, 0 ≤ n ∧ n < 256 := by
        intro n hn
        have := hw n hn
        simp [Lit.wf, IntKind.min, IntKind.max, IntKind.signed, IntKind.bits] at this
        omega
      refine ⟨(zs.take len).map Int.toNat, .inl ⟨g, o, cap, by simp; omega, ⟨fun i hi => ?_, fun i => ?_⟩⟩, by simp; omega⟩
      · have hi1 : i < len := by simp at hi; omega
        have := hc i (by omega)
        rw [Addr.add_mid] at this
        rw [this]
        have hi2 : i < zs.length := by omega
        have hr2 := hr zs[i] (List.getElem_mem hi2)
        have e1 : ((zs.take len).map Int.toNat).getD i 0 = zs[i].toNat := by
          rw [List.getD_eq_getElem?_getD, List.getElem?_map, List.getElem?_take, if_pos hi1, List.getElem?_eq_getElem hi2]; rfl
        have e2 : zs.getD i 0 = zs[i] := by rw [List.getD_eq_getElem?_getD, List.getElem?_eq_getElem hi2]; rfl
        rw [e1, e2]
        congr 2
        omega
      · rw [List.getD_eq_getElem?_getD, List.getElem?_map]
        cases h : (zs.take len)[i]? with
        | none => simp
        | some n =>
          have := hr n (List.mem_of_mem_take (List.mem_of_getElem? h))
          simp; omega
theorem sl_lt {w : World} {s : Value} {l : List Nat} {g o cap : Nat} (h : SlAt w s l) (e : s = .slice (some ⟨g, o, none⟩) l.length cap) (hne : l ≠ []) : g < w.heap.size := by
  rcases h with ⟨g', o', cap', e', hd⟩ | ⟨h0, _⟩
  · rw [e] at e'
    simp at e'
    have h0 : 0 < l.length := by cases l <;> simp_all
    have := World.block_lt_of_cell? w _ (hd.cell 0 h0)
    rw [e'.1.1]
    exact this
  · exact absurd h0 hne
theorem sl_ptr {w : World} {a : Option Addr} {n cap : Nat} {l : List Nat} (h : SlAt w (.slice a n cap) l) (hl : l.length = n) (hn : 0 < n) : ∃ g o, a = some ⟨g, o, none⟩ ∧ DataAt w g o l := by
  rcases h with ⟨g', o', cap', e', hd⟩ | ⟨h0, _⟩
  · simp at e'
    exact ⟨g', o', e'.1, hd⟩
  · subst h0
    simp at hl
    omega
theorem woctets_sl (w : World) (b : Nat) (B : List Bool) (s : Value) (l : List Nat) (h : WrAt w b B) (hs : SlAt w s l) (hg : ∀ g o cap, s = .slice (some ⟨g, o, none⟩) l.length cap → l ≠ [] → g ≠ b) (hn : B.length ≤ 10000000000) (hl : l.length ≤ 1000000000) :
    Calls Tryz.prog 42 #[.pointer (some ⟨b, 0, none⟩), s] w fun e w' => e = .returned (.int .i64 0) ∧ WrAt w' b (B ++ bitsOf l) ∧ Only b w w' := by
  by_cases hl0 : l = []
  · subst hl0
    have e : ∃ a cap, s = .slice a 0 cap := by
      rcases hs with ⟨g, o, cap, rfl, hd⟩ | ⟨_, a, cap, rfl⟩
      · exact ⟨_, _, rfl⟩
      · exact ⟨_, _, rfl⟩
    obtain ⟨a, cap, rfl⟩ := e
    refine (woctets_none w b B a cap h).mono ?_
    rintro e w' ⟨rfl, rfl⟩
    exact ⟨rfl, by simpa [bitsOf] using h, Only.refl _ _⟩
  · rcases hs with ⟨g, o, cap, rfl, hd⟩ | ⟨h0, _⟩
    · exact woctets_at w b B g o cap l h hd (hg g o cap rfl hl0) hn hl
    · exact absurd h0 hl0
theorem Only.setCell {b : Nat} {w : World} (o : Nat) (v : Value) : Only b w (w.setCell ⟨b, o, none⟩ v) :=
  ⟨rfl, rfl, rfl, by simp, fun k hk hkb => heap_setCell_other _ _ _ _ hkb⟩
theorem WrAt.setCell {w : World} {b g o : Nat} {B : List Bool} {v : Value} {cs : Array Value} (h : WrAt w b B) (hg : w.heap[g]? = some (.cells cs 5 (0, 0))) : WrAt (w.setCell ⟨g, o, none⟩ v) b B := by
  have hne : b ≠ g := by
    rintro rfl
    obtain ⟨c, hc, _⟩ := h
    rw [hc] at hg
    unfold wrObj at hg
    injection hg with hg
    injection hg with h1 h2 h3
    exact absurd h2 (by decide)
  refine h.keep (Only.setCell o v) hne (fun c' q' e => ?_)
  rw [hg] at e
  unfold chObj at e
  injection e with e
  injection e with h1 h2 h3
  exact absurd h2 (by decide)
end Go.Proofs.YtbpfggkpfaobhaaGreat
