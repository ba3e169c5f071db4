/-
  Proved: the statement StreamBack (what was written is read by the same calls, in the same order, and then there is nothing left), for every input; no further condition.
-/
import Derived.Test.YtekoilcjghclcaaRows
import Derived.Test.YtekoilcjghclcaaSegs
import Derived.StillTailTactics
import Derived.ProofKit
import Derived.OpenShut
import Derived.ShutString
import Derived.ChangeOld
namespace Go.Proofs.Ytekoilcjghclcaa.streamBack
open Go.ChangeShapes Go.WideShapes Go.ChangeAt Go.RowKit
open Go.ChangeMaps (open_string shut_string)
set_option linter.unusedVariables false
set_option linter.unusedSimpArgs false

theorem own : ownKnob Try.prog.godebug = none := by kernel_rfl
theorem laidOut : laidOutB Try.prog = true := by kernel_rfl

theorem ownsRow_still {w w' : World} {base n : Nat} {v : Value} {xs : List Value} (h : w.ownsRow base 32 4 v n xs) (hs : Still w w') : w'.ownsRow base 32 4 v n xs := by
  obtain ⟨h1, h2⟩ := h
  refine ⟨h1, ?_⟩
  rw [hs.heap]
  exact h2
/-- a step that was accepted -/
def Good (w : World) (op : OpV) : Prop := (op.what = 0 → Fits op) ∧ OpOk w op ∧ op.b.length ≤ 100

theorem cell_only {w w' : World} {b g o : Nat} {v : Value} (h : Only b w w') (hne : g ≠ b) (hc : w.cell? ⟨g, o, none⟩ = some v) : w'.cell? ⟨g, o, none⟩ = some v := by
  rw [← hc]
  exact World.cell?_of_block (w := w) (h.block g (World.block_lt_of_cell? w _ hc) hne)
theorem news_ok (w : World) (op : OpV) : ∀ j u, op.cells[j]? = some u → (w.alloc (.cells op.cells.toArray 32)).cell? ((⟨w.heap.size, 0, none⟩ : Addr).add j) = some u := fun j u hj => by
  rw [Addr.add_mid]
  exact cell_of_list (heap_alloc_new _ _) (by rw [Nat.zero_add]; exact hj)
theorem appended {w w3 w4 : World} {x n : Nat} {dv : Value} {xs : List Value} {B : List Bool} {ob : Obj} (hown : w3.ownsRow w.heap.size 32 4 dv n xs) (hwr : WrAt w3 x B) (hbl : Below w.heap.size w w3) (hgr : (w3.alloc ob).grownBy w4 dv.ownBlock) :
    WrAt w4 x B ∧ Below w.heap.size w w4 := by
  have h1 := hwr.below ((Below.refl _ _).alloc (Nat.le_refl _) ob)
  have h2 := hown.alloc ob
  refine ⟨h1.grown h2 hgr, (hbl.alloc hbl.size ob).grown hgr (by have := hbl.size; simp; omega) (fun k hk => (h2.lt k hk).1)⟩
theorem flat_snoc (D : List OpV) (op : OpV) : (D ++ [op]).flatMap OpV.cells = D.flatMap OpV.cells ++ op.cells := by simp
theorem good_snoc {w : World} {D : List OpV} {op : OpV} (h : ∀ p ∈ D, Good w p) (ho : Good w op) : ∀ p ∈ D ++ [op], Good w p := by
  intro p hp
  rcases List.mem_append.1 hp with hp | hp
  · exact h p hp
  · simp at hp; subst hp; exact ho
theorem wrote_bound {w : World} {D : List OpV} {op : OpV} {j : Nat} (h : (wrote D).length ≤ 800 * j) (ho : Good w op) : (wrote (D ++ [op])).length ≤ 800 * (j + 1) := by
  rw [wrote_snoc, List.length_append]
  have := seg_length (wrote D) op ho.1 ho.2.2
  omega
def Rel (w : World) (len x : Nat) (dv i : Value) (wr : World) : Prop := ∃ (j : Nat) (D : List OpV), j ≤ len ∧ i = .int .i64 j ∧ D.length ≤ j ∧ (∀ op ∈ D, Good w op) ∧ (wrote D).length ≤ 800 * j ∧ wr.ownsRow w.heap.size 32 4 dv D.length (D.flatMap OpV.cells) ∧ WrAt wr x (wrote D) ∧ Below w.heap.size w wr
theorem rel_next {w w4 : World} {len x j : Nat} {dv' : Value} {D : List OpV} {op : OpV} {B : List Bool} (hlt : j < len) (hDj : D.length ≤ j) (hgood : ∀ p ∈ D, Good w p) (hgo : Good w op) (hwl : (wrote D).length ≤ 800 * j)
    (hown : w4.ownsRow w.heap.size 32 4 dv' (D.length + 1) (D.flatMap OpV.cells ++ op.cells)) (hap : WrAt w4 x B ∧ Below w.heap.size w w4) (hB : B = wrote D ++ seg (wrote D) op) : Rel w len x dv' (.int .i64 ((j : Int) + 1)) w4 := by
  refine ⟨j + 1, D ++ [op], hlt, by go_num, ?_, good_snoc hgood hgo, wrote_bound hwl hgo, ?_, ?_, hap.2⟩
  · rw [List.length_append]; exact Nat.succ_le_succ hDj
  · rw [flat_snoc, List.length_append]; exact hown
  · rw [wrote_snoc, ← hB]; exact hap.1
theorem rel_skip {w wr : World} {len x j : Nat} {dv : Value} {D : List OpV} (hlt : j < len) (hDj : D.length ≤ j) (hgood : ∀ p ∈ D, Good w p) (hwl : (wrote D).length ≤ 800 * j)
    (hown : wr.ownsRow w.heap.size 32 4 dv D.length (D.flatMap OpV.cells)) (hwr : WrAt wr x (wrote D)) (hb : Below w.heap.size w wr) : Rel w len x dv (.int .i64 ((j : Int) + 1)) wr :=
  ⟨j + 1, D, hlt, by go_num, by omega, hgood, by omega, hown, hwr, hb⟩

theorem WrAt.keep_rd {w w' : World} {x r : Nat} {B : List Bool} {s : Value} {L : List Nat} {p : Nat} (h : WrAt w x B) (hr : RdAt w r s L p) (ho : Only r w w') (hne : x ≠ r) : WrAt w' x B :=
  h.keep ho hne (fun c' q' e => by
    obtain ⟨hs, _⟩ := hr
    rw [hs] at e
    unfold chObj at e
    injection e with e
    injection e with h1 h2 h3
    exact absurd h2 (by decide))
theorem grown_of_below {w w' : World} (h : Below w.heap.size w w') : w.grownBy w' none := ⟨h.os, h.tape, h.output, h.size, fun k hk _ => h.block k hk⟩
def Rel2 (w : World) (x r : Nat) (s dv : Value) (D : List OpV) (i : Value) (wr : World) : Prop := ∃ j : Nat, j ≤ D.length ∧ i = .int .i64 j ∧ RdAt wr r s (wb (wrote D)) (wrote (D.take j)).length ∧ wr.ownsRow w.heap.size 32 4 dv D.length (D.flatMap OpV.cells) ∧ WrAt wr x (wrote D) ∧ Below w.heap.size w wr
theorem rel2_next {w wr w' : World} {x r j p : Nat} {s dv : Value} {D : List OpV} (hlt : j < D.length) (hne : x ≠ r) (hwr : w.heap.size ≤ r) (hr : RdAt wr r s (wb (wrote D)) p) (hown : wr.ownsRow w.heap.size 32 4 dv D.length (D.flatMap OpV.cells)) (hw : WrAt wr x (wrote D)) (hb : Below w.heap.size w wr)
    (q : Nat) (hr' : RdAt w' r s (wb (wrote D)) q) (ho : Only r wr w') (hq : q = (wrote (D.take j)).length + (seg (wrote (D.take j)) D[j]).length) : Rel2 w x r s dv D (.int .i64 ((j : Int) + 1)) w' := by
  refine ⟨j + 1, hlt, by go_num, ?_, ownsRow_keep hown ho hr.no_op, WrAt.keep_rd hw hr ho hne, hb.trans (ho.below hwr hb.size)⟩
  rw [wrote_take_succ D j hlt, List.length_append, ← hq]
  exact hr'
theorem sl_byte {w : World} {s : Value} {l : List Nat} (h : SlAt w s l) : ∀ i, l.getD i 0 < 256 := by
  rcases h with ⟨g, o, cap, _, hd⟩ | ⟨rfl, _⟩
  · exact hd.byte
  · intro i; simp
/-- what stands before a reader at step j -/
theorem at_step (D : List OpV) (j : Nat) (h : j < D.length) : ∃ R, bitsOf (wb (wrote D)) = wrote (D.take j) ++ seg (wrote (D.take j)) D[j] ++ R := by
  obtain ⟨R, hR⟩ := wrote_at D j h
  obtain ⟨m, hm, _⟩ := wb_bits (wrote D)
  refine ⟨R ++ List.replicate m false, ?_⟩
  have e : bitsOf (wb (wrote D)) = (wrote (D.take j) ++ seg (wrote (D.take j)) D[j] ++ R) ++ List.replicate m false := by rw [← hR]; exact hm
  rw [e, List.append_assoc _ R]

set_option maxHeartbeats 2000000 in
set_option maxRecDepth 100000 in
theorem walk_long (w : World) (a : Option Addr) (len cap : Nat) (hout : (100 : Int) < len) :
    Calls Try.prog 5 #[.slice a len cap] w fun e w' => e = .returned (.bool true) ∧ Below w.heap.size w w' := by
  go_enter Try.func5, Try.ntmps5
  go_wp2_with (go_at_call 9; refine (awake_any _).mono ?_; rintro e wa ⟨rfl, hba⟩; have HB := Lib.hid hba; clear hba)
  go_ret
  exact ⟨rfl, HB.out⟩

set_option maxHeartbeats 4000000 in
set_option maxRecDepth 100000 in
theorem walk_main (w : World) (a : Option Addr) (len cap : Nat) (ops : List OpV) (hops : OpsIn w a len ops) (hin : (len : Int) ≤ 100) :
    Calls Try.prog 5 #[.slice a len cap] w fun e w' => e = .returned (.bool true) ∧ Below w.heap.size w w' := by
  obtain ⟨zz, hzz, hzs⟩ := info_op
  obtain ⟨i0, hi, hz0, hz1, hz2⟩ := info_parts hzz
  have HOPS := Lib.hid hops
  clear hops hzz
  have hzv := zero_writer
  go_enter Try.func5, Try.ntmps5
  go_wp2_with (go_at_call 9; refine (awake_any _).mono ?_; rintro e wa ⟨rfl, hba⟩; have hsa := hba.size; have HBA := Lib.hid hba; clear hba)
  have hw1 := wr_new wa
  have hb1 : Below w.heap.size w (wa.alloc (.cells newCells 28)) := HBA.out.alloc hsa _
  clear hzv HBA
  revert hw1 hb1
  generalize wa.alloc (.cells newCells 28) = W1
  generalize wa.heap.size = x at *
  intro hw1 hb1
  have HW1 := Lib.hid hw1
  have HB1 := Lib.hid hb1
  clear hw1 hb1
  go_loopw [5, 6] (fun dv i wr => Rel w len x dv i wr) (fun _ i _ => len - (intOf i).toNat)
  case atStart => exact ⟨0, [], Nat.zero_le _, rfl, Nat.le_refl _, fun op h => (by cases h), Nat.zero_le _, World.ownsRow_nil _ _ _ _, HW1.out, HB1.out⟩
  case round =>
    obtain ⟨j, D, hj, rfl, hDj, hgood, hwl, hown, hwr, hbl⟩ := hrel
    have HOWN := Lib.hid hown
    have HWR := Lib.hid hwr
    have HBL := Lib.hid hbl
    have HGOOD := Lib.hid hgood
    have hbs := hbl.size
    clear hown hwr hbl hgood
    by_cases hlt : j < len
    · obtain ⟨hol, hoo⟩ := HOPS.out
      obtain ⟨g, o, ha, hat⟩ := hoo (by omega)
      obtain ⟨hok, hcells⟩ := hat j (by omega)
      obtain ⟨op, hop⟩ : ∃ op, ops[j]'(by omega) = op := ⟨_, rfl⟩
      rw [hop] at hok hcells
      have hcb := fun k u hk => (World.cell?_of_block (w := w) (w' := wr) (a := ⟨g, o + j * 4 + k, none⟩) (HBL.out.block g (World.block_lt_of_cell? w _ (hcells k u hk)))).trans (hcells k u hk)
      obtain ⟨what, v, wd, sa, scap, b⟩ := op
      have c0 : wr.cell? ⟨g, o + j * 4, none⟩ = some (.int .i64 what) := hcb 0 _ rfl
      have c1 : wr.cell? ⟨g, o + j * 4 + 1, none⟩ = some (.int .u64 v) := hcb 1 _ rfl
      have c2 : wr.cell? ⟨g, o + j * 4 + 2, none⟩ = some (.int .i64 wd) := hcb 2 _ rfl
      have c3 : wr.cell? ⟨g, o + j * 4 + 3, none⟩ = some (.slice sa b.length scap) := hcb 3 _ rfl
      have HOK := Lib.hid hok
      have hgw : g < w.heap.size := World.block_lt_of_cell? w _ (hcells 0 _ rfl)
      subst ha
      clear hol hoo hat hok hcells hop hcb
      by_cases hbl : (100 : Int) < b.length
      · go_wp2_with fail
        go_ret
        exact ⟨rfl, HBL.out⟩
      · have hbl' : (b.length : Int) ≤ 100 := by omega
        by_cases hw0 : what = 0
        · subst hw0
          go_wp2_with fail
          go_still_tail 11, (by kernel_rfl)
          change wpList _ _ _ _ _ wr.drew
          have d0 : wr.drew.cell? ⟨g, o + j * 4, none⟩ = some (.int .i64 0) := c0
          have d1 : wr.drew.cell? ⟨g, o + j * 4 + 1, none⟩ = some (.int .u64 v) := c1
          have d2 : wr.drew.cell? ⟨g, o + j * 4 + 2, none⟩ = some (.int .i64 wd) := c2
          have d3 : wr.drew.cell? ⟨g, o + j * 4 + 3, none⟩ = some (.slice sa b.length scap) := c3
          have hst : Still wr wr.drew := (Still.refl wr).drew
          have HWR2 := Lib.hid (HWR.out.below (hst.below _))
          have HBL2 := Lib.hid (HBL.out.trans (hst.below _))
          have HOWN2 := Lib.hid (ownsRow_still HOWN.out hst)
          clear hst c0 c1 c2 c3 HWR HBL HOWN
          revert d0 d1 d2 d3 HWR2 HBL2 HOWN2
          generalize wr.drew = w2
          intro d0 d1 d2 d3 HWR2 HBL2 HOWN2
          have hbs2 := HBL2.out.size
          by_cases hz : widthB wd = true
          · have hz' : 0 ≤ wd ∧ wd ≤ 64 := by simpa [widthB] using hz
            obtain ⟨k, rfl⟩ : ∃ k : Nat, wd = k := ⟨wd.toNat, by omega⟩
            by_cases hv : v < 2 ^ k
            · have HP := Lib.hid (put_ok w2 x _ v k HWR2.out (by omega) hv (by omega))
              have hk64 : k ≤ 64 := by omega
              clear hz hz'
              go_wp2_with fail
              refine HP.out.mono ?_
              rintro e w3 ⟨rfl, hw3, ho3⟩
              have e0 := cell_only ho3 (by omega) d0
              have e1 := cell_only ho3 (by omega) d1
              have e2 := cell_only ho3 (by omega) d2
              have e3 := cell_only ho3 (by omega) d3
              have HWR3 := Lib.hid hw3
              have HBL3 := Lib.hid (HBL2.out.trans (ho3.below hsa hbs2))
              have HOWN3 := Lib.hid (ownsRow_keep HOWN2.out ho3 HWR2.out.no_op)
              have hbs3 := HBL3.out.size
              have HGO := Lib.hid (show Good w ⟨0, v, k, sa, scap, b⟩ from ⟨fun _ => ⟨by show (0 : Int) ≤ (k : Int); omega, by show (k : Int) ≤ 64; omega, by show v < 2 ^ (k : Int).toNat; rw [Int.toNat_natCast]; exact hv⟩, HOK.out, by show b.length ≤ 100; omega⟩)
              clear hw3 ho3 d0 d1 d2 d3 HWR2 HBL2 HOWN2 HP
              go_wp2_with (at_builtin; refine wpList_append_own _ rfl (.tmp 68) (.tmp 73) 22 rfl w.heap.size 32 i0 zz 4 48 Try.underlying22 hi hz0 hz1 hz2 hzs (by decide) u5 D.length (D.flatMap OpV.cells) rfl (HOWN3.out.alloc _) ⟨w3.heap.size, 0, none⟩ 1 1 (OpV.cells ⟨0, v, k, sa, scap, b⟩) rfl rfl (news_ok w3 ⟨0, v, k, sa, scap, b⟩) (cells_one _) (by unfold maxLen; omega) (by omega) (by simp; omega) ?_; intro dv' w4 hown4 hgr4 _; have HAP := Lib.hid (appended HOWN3.out HWR3.out HBL3.out hgr4); have HOWN4 := Lib.hid hown4; clear hown4 hgr4)
              go_roundw
              case rel => exact rel_next hlt hDj HGOOD.out HGO.out hwl HOWN4.out HAP.out (by simp [seg])
              case measure => simp [intOf]; omega
            · have HP := Lib.hid (put_big w2 x v k (by omega) (by omega))
              clear hz hz'
              go_wp2_with fail
              refine HP.out.mono ?_
              rintro e w' ⟨rfl, rfl⟩
              go_wp2_with fail
              go_roundw
              case rel => exact rel_skip hlt hDj HGOOD.out hwl HOWN2.out HWR2.out HBL2.out
              case measure => simp [intOf]; omega
          · have HP := Lib.hid (put_wide w2 x v wd (by simpa using hz))
            clear hz
            go_wp2_with fail
            refine HP.out.mono ?_
            rintro e w' ⟨rfl, rfl⟩
            go_wp2_with fail
            go_roundw
            case rel => exact rel_skip hlt hDj HGOOD.out hwl HOWN2.out HWR2.out HBL2.out
            case measure => simp [intOf]; omega
        · by_cases hw1 : what = 1
          · subst hw1
            go_wp2_with fail
            refine (align_ok wr x _ HWR.out (by omega)).mono ?_
            rintro e w3 ⟨rfl, hw3, ho3⟩
            have e0 := cell_only ho3 (by omega) c0
            have e1 := cell_only ho3 (by omega) c1
            have e2 := cell_only ho3 (by omega) c2
            have e3 := cell_only ho3 (by omega) c3
            have HWR3 := Lib.hid hw3
            have HBL3 := Lib.hid (HBL.out.trans (ho3.below hsa hbs))
            have HOWN3 := Lib.hid (ownsRow_keep HOWN.out ho3 HWR.out.no_op)
            have hbs3 := HBL3.out.size
            have HGO := Lib.hid (show Good w ⟨1, v, wd, sa, scap, b⟩ from ⟨fun h => absurd h (show ¬ ((1 : Int) = 0) by decide), HOK.out, by show b.length ≤ 100; omega⟩)
            clear hw3 ho3 c0 c1 c2 c3 HWR HBL HOWN
            go_wp2_with (at_builtin; refine wpList_append_own _ rfl (.tmp 79) (.tmp 84) 22 rfl w.heap.size 32 i0 zz 4 48 Try.underlying22 hi hz0 hz1 hz2 hzs (by decide) u5 D.length (D.flatMap OpV.cells) rfl (HOWN3.out.alloc _) ⟨w3.heap.size, 0, none⟩ 1 1 (OpV.cells ⟨1, v, wd, sa, scap, b⟩) rfl rfl (news_ok w3 ⟨1, v, wd, sa, scap, b⟩) (cells_one _) (by unfold maxLen; omega) (by omega) (by simp; omega) ?_; intro dv' w4 hown4 hgr4 _; have HAP := Lib.hid (appended HOWN3.out HWR3.out HBL3.out hgr4); have HOWN4 := Lib.hid hown4; clear hown4 hgr4)
            go_roundw
            case rel => exact rel_next hlt hDj HGOOD.out HGO.out hwl HOWN4.out HAP.out (by simp [seg, padded])
            case measure => simp [intOf]; omega
          · have hn0 : (what == 0) = false := by simpa using hw0
            have hn1 : (what == 1) = false := by simpa using hw1
            have hsl := HOK.out.1.below HBL.out
            go_wp2_with fail
            refine (woctets_sl wr x _ _ b HWR.out hsl (fun g' o' cap' e hne => by have := sl_lt HOK.out.1 e hne; omega) (by omega) (by omega)).mono ?_
            rintro e w3 ⟨rfl, hw3, ho3⟩
            have e0 := cell_only ho3 (by omega) c0
            have e1 := cell_only ho3 (by omega) c1
            have e2 := cell_only ho3 (by omega) c2
            have e3 := cell_only ho3 (by omega) c3
            have HWR3 := Lib.hid hw3
            have HBL3 := Lib.hid (HBL.out.trans (ho3.below hsa hbs))
            have HOWN3 := Lib.hid (ownsRow_keep HOWN.out ho3 HWR.out.no_op)
            have hbs3 := HBL3.out.size
            have HGO := Lib.hid (show Good w ⟨what, v, wd, sa, scap, b⟩ from ⟨fun h => absurd h hw0, HOK.out, by show b.length ≤ 100; omega⟩)
            clear hsl hw3 ho3 c0 c1 c2 c3 HWR HBL HOWN
            go_wp2_with (at_builtin; refine wpList_append_own _ rfl (.tmp 46) (.tmp 51) 22 rfl w.heap.size 32 i0 zz 4 48 Try.underlying22 hi hz0 hz1 hz2 hzs (by decide) u5 D.length (D.flatMap OpV.cells) rfl (HOWN3.out.alloc _) ⟨w3.heap.size, 0, none⟩ 1 1 (OpV.cells ⟨what, v, wd, sa, scap, b⟩) rfl rfl (news_ok w3 ⟨what, v, wd, sa, scap, b⟩) (cells_one _) (by unfold maxLen; omega) (by omega) (by simp; omega) ?_; intro dv' w4 hown4 hgr4 _; have HAP := Lib.hid (appended HOWN3.out HWR3.out HBL3.out hgr4); have HOWN4 := Lib.hid hown4; clear hown4 hgr4)
            go_roundw
            case rel => exact rel_next hlt hDj HGOOD.out HGO.out hwl HOWN4.out HAP.out (by simp [seg, hw0, hw1])
            case measure => simp [intOf]; omega
    · obtain rfl : j = len := by omega
      have hwl' : (wrote D).length ≤ 100000 := by omega
      have hDl : D.length ≤ 100 := by omega
      clear hlt hwl hDj hj
      have hsh : ∃ ad dcap, u5 = .slice ad D.length dcap := by
        rcases HOWN.out.2 with ⟨rfl, h0⟩ | ⟨gd, dcap, cur, rfl, _⟩
        · exact ⟨none, 0, by rw [h0]⟩
        · exact ⟨_, _, rfl⟩
      obtain ⟨ad, dcap, rfl⟩ := hsh
      go_wp2_with fail
      refine (wbytes_any wr x _ HWR.out (by omega)).mono ?_
      rintro e w2 ⟨rfl, hr2, hb2⟩
      have HWR2 := Lib.hid (HWR.out.below hb2)
      have HOWN2 := Lib.hid (HOWN.out.kept (grown_of_below hb2) (by cases ad <;> simp [Value.ownBlock]))
      have HB2 := Lib.hid (HBL.out.trans (hb2.mono hbs))
      have hs2 := HB2.out.size
      have hwbl : (wb (wrote D)).length ≤ 100000 := by
        obtain ⟨m, hm, h8, h9⟩ := wb_bits (wrote D)
        have := wb_length _ m hm
        by_cases h0 : wrote D = []
        · have := h8 h0; omega
        · have := h9 h0; omega
      have HSL2 := Lib.hid (sl_of_row hr2 (wb_lt _) rfl)
      clear hr2 hb2 HWR HOWN HBL
      go_wp2_with fail
      refine (new_ok w2 _ (wb (wrote D)) HSL2.out (by omega)).mono ?_
      rintro e w3 ⟨s3, r, rfl, hr3, hrd3, hb3⟩
      have HWR3 := Lib.hid (HWR2.out.below hb3)
      have HOWN3 := Lib.hid (HOWN2.out.kept (grown_of_below hb3) (by cases ad <;> simp [Value.ownBlock]))
      have HB3 := Lib.hid (HB2.out.trans (hb3.mono hs2))
      have HRD3 := Lib.hid hrd3
      have hxr : x < r := by have := HWR2.out.lt; omega
      have hwr3 : w.heap.size ≤ r := by omega
      clear hrd3 hb3 hr3 HWR2 HOWN2 HB2 HSL2
      go_wp2_with fail
      go_loopw [8] (fun i wr => Rel2 w x r s3 (.slice ad D.length dcap) D i wr) (fun i _ => D.length - (intOf i).toNat)
      case atStart => exact ⟨0, Nat.zero_le _, rfl, HRD3.out, HOWN3.out, HWR3.out, HB3.out⟩
      case round =>
        obtain ⟨k, hk, rfl, hrd, hown, hw, hb⟩ := hrel
        have HRD := Lib.hid hrd
        have HOWN := Lib.hid hown
        have HW := Lib.hid hw
        have HB := Lib.hid hb
        clear hrd hown hw hb
        have hLb : (wb (wrote D)).length ≤ 10000000000 := by omega
        by_cases hlt : k < D.length
        · obtain ⟨R, hR⟩ := at_step D k hlt
          have hfull : 8 * (wb (wrote D)).length = (wrote (D.take k)).length + (seg (wrote (D.take k)) D[k]).length + R.length := by
            rw [← bitsOf_length, hR]; simp [Nat.add_assoc]
          have hgd := HGOOD.out D[k] (List.getElem_mem hlt)
          have hsh : ∃ gd, ad = some ⟨gd, 0, none⟩ := by
            rcases HOWN.out.2 with ⟨_, h0⟩ | ⟨gd, dcap', cur, e, _⟩
            · omega
            · simp at e; exact ⟨gd, e.1⟩
          obtain ⟨gd, rfl⟩ := hsh
          have hcell : ∀ q u, q < 4 → (D[k].cells)[q]? = some u → wr.cell? ⟨gd, k * 4 + q, none⟩ = some u := fun q u hq hu => by
            rw [HOWN.out.cellAt (k * 4 + q) (by omega), flat4 D k q hlt hq]
            exact hu
          have hnx := fun (q : Nat) (w' : World) => rel2_next (w' := w') hlt (by omega : x ≠ r) hwr3 HRD.out HOWN.out HW.out HB.out q
          revert hR hfull hgd hcell hnx
          generalize D[k] = op
          intro hR hfull hgd hcell hnx
          obtain ⟨what, v, wd, sa, scap, b⟩ := op
          obtain ⟨hfit, hok, hbl⟩ := hgd
          have c0 : wr.cell? ⟨gd, k * 4, none⟩ = some (.int .i64 what) := hcell 0 _ (by omega) rfl
          have c1 : wr.cell? ⟨gd, k * 4 + 1, none⟩ = some (.int .u64 v) := hcell 1 _ (by omega) rfl
          have c2 : wr.cell? ⟨gd, k * 4 + 2, none⟩ = some (.int .i64 wd) := hcell 2 _ (by omega) rfl
          have c3 : wr.cell? ⟨gd, k * 4 + 3, none⟩ = some (.slice sa b.length scap) := hcell 3 _ (by omega) rfl
          have HR := Lib.hid hR
          have HF := Lib.hid hfull
          have HOK := Lib.hid hok
          have HFIT := Lib.hid hfit
          have HNX := Lib.hid hnx
          clear hR hfull hok hfit hcell hnx
          have hgr : gd ≠ r := by
            rcases HOWN.out.2 with ⟨h0, _⟩ | ⟨gd', dcap', cur, e, _, hh, _⟩
            · cases h0
            · simp at e
              rw [← e.1] at hh
              rintro rfl
              exact HRD.out.no_op _ _ hh
          by_cases hw0 : what = 0
          · subst hw0
            obtain ⟨hf0, hf1, hf2⟩ := HFIT.out rfl
            simp only at hf0 hf1 hf2
            obtain ⟨kk, rfl⟩ : ∃ kk : Nat, wd = kk := ⟨wd.toNat, by omega⟩
            rw [Int.toNat_natCast] at hf2
            have hseg : seg (wrote (D.take k)) ⟨0, v, kk, sa, scap, b⟩ = nb v kk := by simp [seg]
            have hr1 := HR.out
            have hf3 := HF.out
            rw [hseg] at hr1 hf3
            rw [nb_length] at hf3
            have hval : bitsAt (bitsOf (wb (wrote D))) (wrote (D.take k)).length kk = v := by
              rw [hr1, bitsAt_mid _ _ _ kk (by rw [nb_length]), num_nb v kk hf2]
            have hc := get_ok wr r (wb (wrote D)) (wrote (D.take k)).length kk HRD.out hLb (by omega) (by omega)
            rw [hval] at hc
            have HC := Lib.hid hc
            have HSEG := Lib.hid hseg
            clear hc hseg hr1 hf3 hval hf2
            go_wp2_with fail
            refine HC.out.mono ?_
            rintro e w7 ⟨rfl, hr7, ho7⟩
            have d1 := cell_only ho7 hgr c1
            have HREL := Lib.hid (HNX.out _ _ hr7 ho7 (by rw [HSEG.out, nb_length]))
            clear hr7 ho7 HC HNX
            go_wp2_with fail
            go_roundw
            case rel => exact HREL.out
            case measure => simp [intOf]; omega
          · by_cases hw1 : what = 1
            · subst hw1
              have hseg : seg (wrote (D.take k)) ⟨1, v, wd, sa, scap, b⟩ = List.replicate ((8 - (wrote (D.take k)).length % 8) % 8) false := by simp [seg]
              have hr1 := HR.out
              rw [hseg] at hr1
              have hval : allz (bitsOf (wb (wrote D))) (wrote (D.take k)).length ((8 - (wrote (D.take k)).length % 8) % 8) = true := by rw [hr1]; exact allz_mid _ _ _
              have HC := Lib.hid (ralign_ok wr r (wb (wrote D)) (wrote (D.take k)).length HRD.out hLb hval)
              have HSEG := Lib.hid hseg
              clear hseg hr1 hval
              go_wp2_with fail
              refine HC.out.mono ?_
              rintro e w7 ⟨rfl, hr7, ho7⟩
              have HREL := Lib.hid (HNX.out _ _ hr7 ho7 (by rw [HSEG.out, List.length_replicate]))
              clear hr7 ho7 HC HNX
              go_wp2_with fail
              go_roundw
              case rel => exact HREL.out
              case measure => simp [intOf]; omega
            · have hn0 : (what == 0) = false := by simpa using hw0
              have hn1 : (what == 1) = false := by simpa using hw1
              have hseg : seg (wrote (D.take k)) ⟨what, v, wd, sa, scap, b⟩ = bitsOf b := by simp [seg, hw0, hw1]
              have hr1 := HR.out
              have hf3 := HF.out
              rw [hseg] at hr1 hf3
              rw [bitsOf_length] at hf3
              have hsl : SlAt w (.slice sa b.length scap) b := HOK.out.1
              have hbyte : ∀ i, b.getD i 0 < 256 := sl_byte hsl
              have hval : octetsAt (bitsOf (wb (wrote D))) (wrote (D.take k)).length b.length = b := by rw [hr1]; exact octetsAt_mid _ _ _ hbyte
              have hc := roctets_ok wr r (wb (wrote D)) (wrote (D.take k)).length b.length HRD.out hLb (by omega)
              rw [hval] at hc
              have HC := Lib.hid hc
              have HSEG := Lib.hid hseg
              have HSL := Lib.hid hsl
              have HBY := Lib.hid hbyte
              clear hc hseg hr1 hf3 hval hsl hbyte
              go_wp2_with fail
              refine HC.out.mono ?_
              rintro e w7 ⟨rfl, hr7, hrow7, ho7⟩
              have d3 := cell_only ho7 hgr c3
              have HREL := Lib.hid (HNX.out _ _ hr7 ho7 (by rw [HSEG.out, bitsOf_length]))
              have HSA := Lib.hid (sl_of_row hrow7 HBY.out rfl)
              have HSB := Lib.hid (HSL.out.below (HB.out.trans (ho7.below hwr3 HB.out.size)))
              clear hr7 hrow7 ho7 HC HNX
              go_wp2_with fail
              refine (same_yes w7 _ _ b HSA.out HSB.out).mono ?_
              rintro e w' ⟨rfl, rfl⟩
              go_wp2_with fail
              go_roundw
              case rel => exact HREL.out
              case measure => simp [intOf]; omega
        · obtain rfl : k = D.length := by omega
          have hpos : (wrote (D.take D.length)) = wrote D := by rw [List.take_of_length_le (Nat.le_refl _)]
          have hrd := HRD.out
          rw [hpos] at hrd
          have HRD' := Lib.hid hrd
          have hee := end_ok wr r (wb (wrote D)) (wrote D).length hrd hLb
          rw [endB_wb, if_pos rfl] at hee
          have HE := Lib.hid hee
          clear hrd hpos hee
          go_wp2_with fail
          refine HE.out.mono ?_
          rintro e w7 ⟨rfl, hst⟩
          have HRD7 := Lib.hid (HRD'.out.still hst)
          have HW7 := Lib.hid (HW.out.below (hst.below _))
          have HB7 := Lib.hid (HB.out.trans (hst.below _))
          clear hst
          go_wp2_with fail
          refine (pos_ok w7 r _ _ HRD7.out).mono ?_
          rintro e w' ⟨rfl, rfl⟩
          go_wp2_with fail
          refine (len_ok w7 x _ HW7.out).mono ?_
          rintro e w' ⟨rfl, rfl⟩
          go_wp2_with fail
          go_ret
          exact ⟨rfl, HB7.out⟩

theorem walk (w : World) (a0 : Option Addr) (len0 cap0 : Nat) (w0 : ∃ ops, OpsIn w a0 len0 ops) :
    Calls Try.prog 5 #[.slice a0 len0 cap0] w fun e w' => e = .returned (.bool true) ∧ Below w.heap.size w w' := by
  obtain ⟨ops, hops⟩ := w0
  by_cases h : (100 : Int) < len0
  · exact walk_long w a0 len0 cap0 h
  · exact walk_main w a0 len0 cap0 ops hops (by omega)

set_option maxRecDepth 100000 in
theorem lifted (os : Os) (started : os.Started) (H : Type) (enc : TypeId × Value → H) :
    ReturnsInHanded {} Try.checked os 5 .any (Rows.streamBackSpec.pre6 enc Try.prog Try.f5 Rows.streamBackRow.domain false) (Rows.streamBackSpec.post enc Try.prog Try.f5 false true false false) := by
  refine returnsInHanded_of_change (C := Try.checked) own started (by kernel_rfl) Try.func5
    (ChangeSpec.witness6 (enc := enc) (C := Try.checked) false ⟨#[], #[.slice none 0 0], []⟩ 8 (by kernel_rfl) (by kernel_rfl) (by kernel_rfl) (by kernel_rfl)) ?_
  intro W base args ds gs before hval0 hW hcnd _
  have hval : ∀ (j : Nat) t v, Try.f5.params[j]? = some t → args[j]? = some v → Value.okWide Try.prog W .any base t v := hval0
  have hW' := hW
  obtain ⟨p, q, hA0, hV, rfl, hfz, hnd⟩ := hW
  have hA : DataW.TrodAll enc Try.prog W 0 (fun _ => true) true Try.f5.params.toList args.toList ds p := hA0
  rw [Try.params5] at hA hval
  obtain ⟨v0, vs0, d0, ds0, p0, q0, hargs, rfl, rfl, h0, r0⟩ := trodAll_cons hA
  obtain ⟨rfl, rfl, rfl⟩ := trodAll_nil r0
  obtain rfl : args = #[v0] := by cases args; simp_all
  obtain ⟨rfl, rfl⟩ := trodVars_none hV
  obtain ⟨a0, len0, cap0, rfl⟩ := okWide_slice Try.underlying22 (hval 0 22 v0 rfl rfl)
  have k0 := h0
  have lt0 : ∀ x ∈ p0, x.block < W.heap.size := by obtain ⟨m, hm⟩ := k0; exact DataW.trod_lt m _ _ _ hm
  have w0 := open_ops h0
  clear hA0 hval0
  refine (walk W a0 len0 cap0 w0).mono fun e W' ⟨he, bel⟩ => ?_
  subst he
  exact ⟨_, rfl, _, _, _, [], _, [], hW', trodAll_mk1 (shut_bool Try.underlying4 _), (trodAll_cons_mk (Below.trod laidOut (by kernel_rfl) (of_decide_eq_true (by kernel_rfl)) k0 bel lt0) trodAll_mk0), rfl, bel.frame _, fun h => by cases h⟩

theorem over : Rows.streamBackRow.holds Try.pinned (OpenSpec.ofChange Rows.streamBackSpec) :=
  OpenClaim.holds_of_wide 5 Try.f5 rfl rfl rfl rfl rfl rfl rfl ⟨rfl, rfl, rfl, rfl, rfl⟩ rfl rfl rfl rfl rfl (by kernel_rfl) Try.func5 (by kernel_rfl)
    (of_decide_eq_true (by kernel_rfl)) (by unfold Func.isWrapper; first | (rw [if_pos (by decide +kernel)]; kernel_rfl) | (rw [if_neg (by decide +kernel)]; exact ⟨rfl, rfl⟩))
    (fun os started H enc _ => lifted os started H enc)

theorem proved : Rows.StreamBackSaid := over
end Go.Proofs.Ytekoilcjghclcaa.streamBack
