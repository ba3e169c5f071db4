/-
  A bundle of texts, one behind the other: ShA0, ShA1.
-/
import Derived.Test.YtgmnojnalkhepaaGreatDoorJK
import Derived.Test.YtgmnojnalkhepaaGreatDoorJF
/-
  The laws' 'awake': its types as trees (no walk).
-/
namespace Go.Proofs.YtgmnojnalkhepaaGreatDoor
open Go.RowKit
set_option linter.unusedVariables false
set_option linter.unusedSimpArgs false
set_option maxRecDepth 100000

theorem RowAt.lit {B : Nat} {W : World} {g n k : Nat} {cs : Array Value} {ty : TypeId} {cells : Nat → List Value} (h : Bx W g cs ty) (hB : g < B) (hn : n ≤ 140737488355328) (hc : ∀ i, i < n → ∃ r, cs.toList.drop (i * k) = cells i ++ r) :
    RowAt B W (some ⟨g, 0, none⟩) n n k cells := by
  refine ⟨Nat.le_refl _, hn, fun e => (by cases e), fun _ => ⟨g, 0, rfl, hB, fun i hi j u hj => ?_⟩⟩
  obtain ⟨r, hr⟩ := hc i hi
  have h1 : (cells i ++ r)[j]? = some u := by rw [List.getElem?_append_left (List.getElem?_eq_some_iff.1 hj).1]; exact hj
  rw [← hr, List.getElem?_drop] at h1
  rw [Nat.zero_add]
  exact h.cell (i * k + j) (by rw [← Array.getElem?_toList]; exact h1)
theorem RowAt.none (B : Nat) (W : World) (k : Nat) (cells : Nat → List Value) : RowAt B W none 0 0 k cells := ⟨Nat.le_refl _, by omega, fun _ => ⟨rfl, rfl⟩, fun h => absurd h (by omega)⟩
def noS : SL := ⟨none, 0, 0, fun _ => ⟨#[]⟩⟩
theorem noS_in (B : Nat) (W : World) : SLIn B W noS := ⟨RowAt.none B W 1 _, fun i h => absurd h (Nat.not_lt_zero i)⟩
def noD : DL := ⟨none, 0, 0, fun _ => .nil⟩
theorem noD_in (B : Nat) (W : World) : DLIn B W noD := ⟨RowAt.none B W 5 _, fun i h => absurd h (Nat.not_lt_zero i)⟩
def noP : PL := ⟨none, 0, 0, fun _ => ⟨⟨#[]⟩, false, noD⟩⟩
def c0T : CT := .mk 0 0 0 false false none 0 0 (fun _ => .nil)
theorem c0_in (B : Nat) (W : World) : CIn B W c0T := ⟨by unfold I64; omega, RowAt.none B W 6 _, fun i h => absurd h (Nat.not_lt_zero i)⟩
def spT (lo hi : Int) : CT := .mk 1 lo hi false false none 0 0 (fun _ => .nil)
theorem sp_in (B : Nat) (W : World) (lo hi : Int) (h1 : I64 lo) (h2 : I64 hi) : CIn B W (spT lo hi) := ⟨⟨by unfold I64; omega, h1, h2⟩, RowAt.none B W 6 _, fun i h => absurd h (Nat.not_lt_zero i)⟩
/-- a type without parts -/
def leafT (kd : Int) (c : CT) (ext : Bool) : TT := .mk kd ⟨#[]⟩ c ext ⟨#[]⟩ noS noS noP (fun _ => .nil) noP (fun _ => .nil) none 0 0 (fun _ => .nil)
theorem leaf_in (B : Nat) (W : World) (kd : Int) (c : CT) (ext : Bool) (hk : I64 kd) (hc : CIn B W c) : TIn B W (leafT kd c ext) :=
  ⟨⟨hk, by decide, hc, by decide, noS_in B W, noS_in B W⟩, ⟨RowAt.none B W 18 _, fun i h => absurd h (Nat.not_lt_zero i)⟩, ⟨RowAt.none B W 18 _, fun i h => absurd h (Nat.not_lt_zero i)⟩, ⟨RowAt.none B W 15 _, fun i h => absurd h (Nat.not_lt_zero i)⟩⟩
/-- INTEGER (0..7 | 9, ...), its row of spans in block g -/
def tA (g : Nat) : TT := leafT 2 (.mk 2 0 0 false false (some ⟨g, 0, none⟩) 2 2 (fun i => if i = 0 then spT 0 7 else spT 9 9)) true
def cAcells : Array Value := #[.int .i64 1, .int .i64 0, .int .i64 7, .bool false, .bool false, .slice none 0 0, .int .i64 1, .int .i64 9, .int .i64 9, .bool false, .bool false, .slice none 0 0]
theorem tA_in (B : Nat) (W : World) (g : Nat) (h : Bx W g cAcells 34) (hB : g < B) : TIn B W (tA g) := by
  refine leaf_in B W 2 _ true (by unfold I64; omega) ⟨by unfold I64; omega, RowAt.lit h hB (by omega) (fun i hi => ?_), fun i hi => ?_⟩
  · match i, hi with
    | 0, _ => exact ⟨_, rfl⟩
    | 1, _ => exact ⟨_, rfl⟩
  · show CIn B W (if i = 0 then spT 0 7 else spT 9 9)
    split
    · exact sp_in B W 0 7 (by unfold I64; omega) (by unfold I64; omega)
    · exact sp_in B W 9 9 (by unfold I64; omega) (by unfold I64; omega)
/-- a BOOLEAN OPTIONAL; b INTEGER DEFAULT -5 -/
def pA : PD := ⟨⟨#[97]⟩, true, noD⟩
def vA : VT := .mk 2 (-5) ⟨#[]⟩ noS none 0 0 (fun _ => .nil)
theorem vA_in (B : Nat) (W : World) : VIn B W vA := ⟨⟨by unfold I64; omega, by unfold I64; omega, by decide, noS_in B W⟩, RowAt.none B W 5 _, fun i h => absurd h (Nat.not_lt_zero i)⟩
def pB (gd : Nat) : PD := ⟨⟨#[98]⟩, false, ⟨some ⟨gd, 0, none⟩, 1, 1, fun _ => vA⟩⟩
def sA (gp gd ga : Nat) : TT := .mk 8 ⟨#[]⟩ c0T true ⟨#[]⟩ noS noS ⟨some ⟨gp, 0, none⟩, 1, 1, fun _ => pA⟩ (fun _ => leafT 1 c0T false) ⟨some ⟨ga, 0, none⟩, 1, 1, fun _ => pB gd⟩ (fun _ => leafT 2 c0T false) none 0 0 (fun _ => .nil)
theorem sA_in (B : Nat) (W : World) (gp gd ga : Nat) (hp : Bx W gp (pcells pA (leafT 1 c0T false)).toArray 42) (hd : Bx W gd vA.cells.toArray 44) (ha : Bx W ga (pcells (pB gd) (leafT 2 c0T false)).toArray 42)
    (h1 : gp < B) (h2 : gd < B) (h3 : ga < B) : TIn B W (sA gp gd ga) := by
  refine ⟨⟨by unfold I64; omega, by decide, c0_in B W, by decide, noS_in B W, noS_in B W⟩, ⟨RowAt.lit hp h1 (by show 1 ≤ _; omega) (fun i hi => ?_), fun i hi => ⟨⟨by show (1 : Nat) ≤ _; omega, noD_in B W⟩, leaf_in B W 1 c0T false (by unfold I64; omega) (c0_in B W)⟩⟩,
    ⟨RowAt.lit ha h3 (by show 1 ≤ _; omega) (fun i hi => ?_), fun i hi => ⟨⟨by show (1 : Nat) ≤ _; omega, RowAt.lit hd h2 (by show 1 ≤ _; omega) (fun i hi => ?_), fun i hi => vA_in B W⟩, leaf_in B W 2 c0T false (by unfold I64; omega) (c0_in B W)⟩⟩, ⟨RowAt.none B W 15 _, fun i h => absurd h (Nat.not_lt_zero i)⟩⟩
  · have hi : i < 1 := hi
    match i, hi with
    | 0, _ => exact ⟨[], rfl⟩
  · have hi : i < 1 := hi
    match i, hi with
    | 0, _ => exact ⟨[], rfl⟩
  · have hi : i < 1 := hi
    match i, hi with
    | 0, _ => exact ⟨[], rfl⟩
def zT : TT := leafT 0 c0T false
theorem tA_text (g : Nat) : (tA g).okT = true ∧ (tA g).txt = [73, 78, 84, 69, 71, 69, 82, 32, 40, 48, 46, 46, 55, 32, 124, 32, 57, 44, 32, 46, 46, 46, 41] := ⟨by kernel_rfl, by kernel_rfl⟩
theorem sA_text (gp gd ga : Nat) : (sA gp gd ga).okT = true ∧ (sA gp gd ga).dep = 2 ∧ (sA gp gd ga).txt = [83, 69, 81, 85, 69, 78, 67, 69, 32, 123, 32, 97, 32, 66, 79, 79, 76, 69, 65, 78, 32, 79, 80, 84, 73, 79, 78, 65, 76, 44, 32, 46, 46, 46, 44, 32, 98, 32, 73, 78, 84, 69, 71, 69, 82, 32, 68, 69, 70, 65, 85, 76, 84, 32, 45, 53, 32, 125] := ⟨by kernel_rfl, by kernel_rfl, by kernel_rfl⟩
theorem zT_ok : zT.okT = false := by kernel_rfl
theorem leaf_q (kd : Int) (c : CT) (ext : Bool) (h : 1 ≤ kd ∧ kd ≤ 11) (h7 : kd ≠ 7) (h9 : kd ≠ 9) : TQ (leafT kd c ext) :=
  ⟨h, fun e => absurd e h7, fun e => absurd e h9, fun i h => absurd h (Nat.not_lt_zero i), fun i h => absurd h (Nat.not_lt_zero i), fun i h => absurd h (Nat.not_lt_zero i)⟩
theorem tA_q (g : Nat) : TQ (tA g) := leaf_q 2 _ _ (by omega) (by omega) (by omega)
theorem sA_q (gp gd ga : Nat) : TQ (sA gp gd ga) :=
  ⟨by omega, fun e => absurd e (by omega), fun e => absurd e (by omega), fun i h => ⟨fun j hj => absurd hj (Nat.not_lt_zero j), leaf_q 1 _ _ (by omega) (by omega) (by omega)⟩, fun i h => ⟨fun j hj => fun e => absurd e (by omega), leaf_q 2 _ _ (by omega) (by omega) (by omega)⟩, fun i h => absurd h (Nat.not_lt_zero i)⟩
end Go.Proofs.YtgmnojnalkhepaaGreatDoor

/-
  The laws' 'awake': the document's examples.
-/
namespace Go.Proofs.YtgmnojnalkhepaaGreatDoor
open Go.RowKit
set_option linter.unusedVariables false
set_option linter.unusedSimpArgs false
set_option maxRecDepth 100000

/-- what stays of awake's blocks -/
structure Aw (w W : World) : Prop where
  gs : Gs W
  below : Below w.heap.size w W
  b0 : Bx W w.heap.size cAcells 34
  b3 : Bx W (w.heap.size + 3) (pcells pA (leafT 1 c0T false)).toArray 42
  b4 : Bx W (w.heap.size + 4) vA.cells.toArray 44
  b5 : Bx W (w.heap.size + 5) (pcells (pB (w.heap.size + 4)) (leafT 2 c0T false)).toArray 42
  b6 : Bx W (w.heap.size + 6) (sA (w.heap.size + 3) (w.heap.size + 4) (w.heap.size + 5)).cells.toArray 39
theorem Aw.step {w W W' : World} (h : Aw w W) (hb : Below W.heap.size W W') : Aw w W' :=
  ⟨h.gs.below hb, h.below.trans (hb.mono h.below.size), h.b0.below hb h.b0.lt, h.b3.below hb h.b3.lt, h.b4.below hb h.b4.lt, h.b5.below hb h.b5.lt, h.b6.below hb h.b6.lt⟩
theorem Aw.tA {w W : World} (h : Aw w W) : TIn W.heap.size W (tA w.heap.size) := tA_in _ _ _ h.b0 h.b0.lt
theorem Aw.sA {w W : World} (h : Aw w W) : TIn W.heap.size W (sA (w.heap.size + 3) (w.heap.size + 4) (w.heap.size + 5)) := sA_in _ _ _ _ _ h.b3 h.b4 h.b5 h.b3.lt h.b4.lt h.b5.lt
theorem Aw.cells {w W : World} (h : Aw w W) : W.cell? ⟨w.heap.size + 6, 0, none⟩ = some (.int .i64 8) ∧ W.cell? ⟨w.heap.size + 6, 1, none⟩ = some (.string ⟨#[]⟩) ∧ W.cell? ⟨w.heap.size + 6, 2, none⟩ = some (.int .i64 0) ∧ W.cell? ⟨w.heap.size + 6, 3, none⟩ = some (.int .i64 0) ∧ W.cell? ⟨w.heap.size + 6, 4, none⟩ = some (.int .i64 0) ∧ W.cell? ⟨w.heap.size + 6, 5, none⟩ = some (.bool false) ∧ W.cell? ⟨w.heap.size + 6, 6, none⟩ = some (.bool false) ∧ W.cell? ⟨w.heap.size + 6, 7, none⟩ = some (.slice none 0 0) ∧ W.cell? ⟨w.heap.size + 6, 8, none⟩ = some (.bool true) ∧ W.cell? ⟨w.heap.size + 6, 9, none⟩ = some (.string ⟨#[]⟩) ∧ W.cell? ⟨w.heap.size + 6, 10, none⟩ = some (.slice none 0 0) ∧ W.cell? ⟨w.heap.size + 6, 11, none⟩ = some (.slice none 0 0) ∧ W.cell? ⟨w.heap.size + 6, 12, none⟩ = some (.slice (some ⟨w.heap.size + 3, 0, none⟩) 1 1) ∧ W.cell? ⟨w.heap.size + 6, 13, none⟩ = some (.slice (some ⟨w.heap.size + 5, 0, none⟩) 1 1) ∧ W.cell? ⟨w.heap.size + 6, 14, none⟩ = some (.slice none 0 0) := by
  exact ⟨h.b6.cell 0 rfl, h.b6.cell 1 rfl, h.b6.cell 2 rfl, h.b6.cell 3 rfl, h.b6.cell 4 rfl, h.b6.cell 5 rfl, h.b6.cell 6 rfl, h.b6.cell 7 rfl, h.b6.cell 8 rfl, h.b6.cell 9 rfl, h.b6.cell 10 rfl, h.b6.cell 11 rfl, h.b6.cell 12 rfl, h.b6.cell 13 rfl, h.b6.cell 14 rfl⟩
theorem Aw.c1 {w W : World} (h : Aw w W) : Calls Tryz.prog 12 #[.agg #[.int .i64 2, .string ⟨#[]⟩, .int .i64 2, .int .i64 0, .int .i64 0, .bool false, .bool false, .slice (some ⟨w.heap.size, 0, none⟩) 2 2, .bool true, .string ⟨#[]⟩, .slice none 0 0, .slice none 0 0, .slice none 0 0, .slice none 0 0, .slice none 0 0]] W fun e w' => e = .returned (.string ⟨#[73, 78, 84, 69, 71, 69, 82, 32, 40, 48, 46, 46, 55, 32, 124, 32, 57, 44, 32, 46, 46, 46, 41]⟩) ∧ Below W.heap.size W w' := by
  have hc := typeText_ok (_root_.Go.Proofs.YtgmnojnalkhepaaGreatDoor.tA w.heap.size) W h.gs h.tA (fun _ => ⟨tA_q _, by rw [(tA_text _).2]; decide, by rw [(tA_text _).2]; decide⟩)
  refine hc.mono ?_
  rintro e w' ⟨rfl, hb⟩
  refine ⟨?_, hb⟩
  rw [show (_root_.Go.Proofs.YtgmnojnalkhepaaGreatDoor.tA w.heap.size).text = _ by unfold TT.text; rw [if_pos (tA_text _).1, (tA_text _).2]]
  rfl
theorem Aw.c2 {w W : World} (h : Aw w W) : Calls Tryz.prog 12 #[.agg #[.int .i64 8, .string ⟨#[]⟩, .int .i64 0, .int .i64 0, .int .i64 0, .bool false, .bool false, .slice none 0 0, .bool true, .string ⟨#[]⟩, .slice none 0 0, .slice none 0 0, .slice (some ⟨w.heap.size + 3, 0, none⟩) 1 1, .slice (some ⟨w.heap.size + 5, 0, none⟩) 1 1, .slice none 0 0]] W fun e w' => e = .returned (.string ⟨#[83, 69, 81, 85, 69, 78, 67, 69, 32, 123, 32, 97, 32, 66, 79, 79, 76, 69, 65, 78, 32, 79, 80, 84, 73, 79, 78, 65, 76, 44, 32, 46, 46, 46, 44, 32, 98, 32, 73, 78, 84, 69, 71, 69, 82, 32, 68, 69, 70, 65, 85, 76, 84, 32, 45, 53, 32, 125]⟩) ∧ Below W.heap.size W w' := by
  have hc := typeText_ok (_root_.Go.Proofs.YtgmnojnalkhepaaGreatDoor.sA (w.heap.size + 3) (w.heap.size + 4) (w.heap.size + 5)) W h.gs h.sA (fun _ => ⟨sA_q _ _ _, by rw [(sA_text _ _ _).2.2]; decide, by rw [(sA_text _ _ _).2.2]; decide⟩)
  refine hc.mono ?_
  rintro e w' ⟨rfl, hb⟩
  refine ⟨?_, hb⟩
  rw [show (_root_.Go.Proofs.YtgmnojnalkhepaaGreatDoor.sA (w.heap.size + 3) (w.heap.size + 4) (w.heap.size + 5)).text = _ by unfold TT.text; rw [if_pos (sA_text _ _ _).1, (sA_text _ _ _).2.2]]
  rfl
theorem Aw.c3 {w W : World} (h : Aw w W) : Calls Tryz.prog 13 #[.agg #[.int .i64 8, .string ⟨#[]⟩, .int .i64 0, .int .i64 0, .int .i64 0, .bool false, .bool false, .slice none 0 0, .bool true, .string ⟨#[]⟩, .slice none 0 0, .slice none 0 0, .slice (some ⟨w.heap.size + 3, 0, none⟩) 1 1, .slice (some ⟨w.heap.size + 5, 0, none⟩) 1 1, .slice none 0 0]] W fun e w' => e = .returned (.bool true) ∧ Below W.heap.size W w' := by
  have hc := Type_ok (_root_.Go.Proofs.YtgmnojnalkhepaaGreatDoor.sA (w.heap.size + 3) (w.heap.size + 4) (w.heap.size + 5)) W.heap.size W h.gs h.sA (Nat.le_refl _)
  rw [(sA_text _ _ _).1] at hc
  exact hc
theorem Aw.c4 {w W : World} (h : Aw w W) : Calls Tryz.prog 13 #[.agg #[.int .i64 0, .string ⟨#[]⟩, .int .i64 0, .int .i64 0, .int .i64 0, .bool false, .bool false, .slice none 0 0, .bool false, .string ⟨#[]⟩, .slice none 0 0, .slice none 0 0, .slice none 0 0, .slice none 0 0, .slice none 0 0]] W fun e w' => e = .returned (.bool false) ∧ Below W.heap.size W w' := by
  have hc := Type_ok zT W.heap.size W h.gs (leaf_in _ _ 0 c0T false (by unfold I64; omega) (c0_in _ _)) (Nat.le_refl _)
  rw [zT_ok] at hc
  exact hc
theorem Aw.c5 {w W : World} (h : Aw w W) : Calls Tryz.prog 14 #[.agg #[.int .i64 8, .string ⟨#[]⟩, .int .i64 0, .int .i64 0, .int .i64 0, .bool false, .bool false, .slice none 0 0, .bool true, .string ⟨#[]⟩, .slice none 0 0, .slice none 0 0, .slice (some ⟨w.heap.size + 3, 0, none⟩) 1 1, .slice (some ⟨w.heap.size + 5, 0, none⟩) 1 1, .slice none 0 0]] W fun e w' => e = .returned (.int .i64 2) ∧ Below W.heap.size W w' := by
  have hc := Depth_ok (_root_.Go.Proofs.YtgmnojnalkhepaaGreatDoor.sA (w.heap.size + 3) (w.heap.size + 4) (w.heap.size + 5)) W.heap.size W h.sA (Nat.le_refl _)
  rw [(sA_text _ _ _).2.1] at hc
  exact hc
set_option maxHeartbeats 8000000 in
theorem awake_ok (w : World) (hgs : Gs w) :
    Calls Tryz.prog 4 #[] w fun e w' => e = .returned (.bool true) ∧ Below w.heap.size w w' := by
  have HG := Lib.hid hgs
  clear hgs
  go_enter Tryz.func4, Tryz.ntmps4
  go_wp2_with fail
  simp only [Nat.add_assoc, Nat.reduceAdd]
  have hAw : Aw w (((((((w.alloc (.cells cAcells 34)).alloc (.cells #[.int .i64 2, .int .i64 0, .int .i64 0, .bool false, .bool false, .slice (some ⟨w.heap.size, 0, none⟩) 2 2] 34)).alloc (.cells #[.int .i64 2, .string ⟨#[]⟩, .int .i64 2, .int .i64 0, .int .i64 0, .bool false, .bool false, .slice (some ⟨w.heap.size, 0, none⟩) 2 2, .bool true, .string ⟨#[]⟩, .slice none 0 0, .slice none 0 0, .slice none 0 0, .slice none 0 0, .slice none 0 0] 39)).alloc (.cells (pcells pA (leafT 1 c0T false)).toArray 42)).alloc (.cells vA.cells.toArray 44)).alloc (.cells (pcells (pB (w.heap.size + 4)) (leafT 2 c0T false)).toArray 42)).alloc (.cells (sA (w.heap.size + 3) (w.heap.size + 4) (w.heap.size + 5)).cells.toArray 39)) := by
    have c0 := Bx.new w cAcells 34
    have c3 := Bx.new (((w.alloc (.cells cAcells 34)).alloc (.cells #[.int .i64 2, .int .i64 0, .int .i64 0, .bool false, .bool false, .slice (some ⟨w.heap.size, 0, none⟩) 2 2] 34)).alloc (.cells #[.int .i64 2, .string ⟨#[]⟩, .int .i64 2, .int .i64 0, .int .i64 0, .bool false, .bool false, .slice (some ⟨w.heap.size, 0, none⟩) 2 2, .bool true, .string ⟨#[]⟩, .slice none 0 0, .slice none 0 0, .slice none 0 0, .slice none 0 0, .slice none 0 0] 39)) (pcells pA (leafT 1 c0T false)).toArray 42
    have c4 := Bx.new ((((w.alloc (.cells cAcells 34)).alloc (.cells #[.int .i64 2, .int .i64 0, .int .i64 0, .bool false, .bool false, .slice (some ⟨w.heap.size, 0, none⟩) 2 2] 34)).alloc (.cells #[.int .i64 2, .string ⟨#[]⟩, .int .i64 2, .int .i64 0, .int .i64 0, .bool false, .bool false, .slice (some ⟨w.heap.size, 0, none⟩) 2 2, .bool true, .string ⟨#[]⟩, .slice none 0 0, .slice none 0 0, .slice none 0 0, .slice none 0 0, .slice none 0 0] 39)).alloc (.cells (pcells pA (leafT 1 c0T false)).toArray 42)) vA.cells.toArray 44
    have c5 := Bx.new (((((w.alloc (.cells cAcells 34)).alloc (.cells #[.int .i64 2, .int .i64 0, .int .i64 0, .bool false, .bool false, .slice (some ⟨w.heap.size, 0, none⟩) 2 2] 34)).alloc (.cells #[.int .i64 2, .string ⟨#[]⟩, .int .i64 2, .int .i64 0, .int .i64 0, .bool false, .bool false, .slice (some ⟨w.heap.size, 0, none⟩) 2 2, .bool true, .string ⟨#[]⟩, .slice none 0 0, .slice none 0 0, .slice none 0 0, .slice none 0 0, .slice none 0 0] 39)).alloc (.cells (pcells pA (leafT 1 c0T false)).toArray 42)).alloc (.cells vA.cells.toArray 44)) (pcells (pB (w.heap.size + 4)) (leafT 2 c0T false)).toArray 42
    have c6 := Bx.new ((((((w.alloc (.cells cAcells 34)).alloc (.cells #[.int .i64 2, .int .i64 0, .int .i64 0, .bool false, .bool false, .slice (some ⟨w.heap.size, 0, none⟩) 2 2] 34)).alloc (.cells #[.int .i64 2, .string ⟨#[]⟩, .int .i64 2, .int .i64 0, .int .i64 0, .bool false, .bool false, .slice (some ⟨w.heap.size, 0, none⟩) 2 2, .bool true, .string ⟨#[]⟩, .slice none 0 0, .slice none 0 0, .slice none 0 0, .slice none 0 0, .slice none 0 0] 39)).alloc (.cells (pcells pA (leafT 1 c0T false)).toArray 42)).alloc (.cells vA.cells.toArray 44)).alloc (.cells (pcells (pB (w.heap.size + 4)) (leafT 2 c0T false)).toArray 42)) (sA (w.heap.size + 3) (w.heap.size + 4) (w.heap.size + 5)).cells.toArray 39
    simp only [World.size_alloc, Nat.add_assoc, Nat.reduceAdd] at c3 c4 c5 c6
    have hb : Below w.heap.size w _ := ((((((Below.refl w.heap.size w).alloc (Nat.le_refl _) (.cells cAcells 34)).alloc (by simp) (.cells #[.int .i64 2, .int .i64 0, .int .i64 0, .bool false, .bool false, .slice (some ⟨w.heap.size, 0, none⟩) 2 2] 34)).alloc (by simp; omega) (.cells #[.int .i64 2, .string ⟨#[]⟩, .int .i64 2, .int .i64 0, .int .i64 0, .bool false, .bool false, .slice (some ⟨w.heap.size, 0, none⟩) 2 2, .bool true, .string ⟨#[]⟩, .slice none 0 0, .slice none 0 0, .slice none 0 0, .slice none 0 0, .slice none 0 0] 39)).alloc (by simp; omega) (.cells (pcells pA (leafT 1 c0T false)).toArray 42)).alloc (by simp; omega) (.cells vA.cells.toArray 44)).alloc (by simp; omega) (.cells (pcells (pB (w.heap.size + 4)) (leafT 2 c0T false)).toArray 42) |>.alloc (by simp; omega) (.cells (sA (w.heap.size + 3) (w.heap.size + 4) (w.heap.size + 5)).cells.toArray 39)
    exact ⟨HG.out.below hb, hb, (((((c0.alloc _).alloc _).alloc _).alloc _).alloc _).alloc _, ((c3.alloc _).alloc _).alloc _, (c4.alloc _).alloc _, c5.alloc _, c6⟩
  have HA := Lib.hid hAw
  clear hAw
  refine HA.out.c1.mono ?_
  rintro e w1 ⟨rfl, hb⟩
  have HA1 := Lib.hid (HA.out.step hb)
  clear hb HA
  obtain ⟨k0, k1, k2, k3, k4, k5, k6, k7, k8, k9, k10, k11, k12, k13, k14⟩ := HA1.out.cells
  go_wp2_with fail
  clear k0 k1 k2 k3 k4 k5 k6 k7 k8 k9 k10 k11 k12 k13 k14
  refine HA1.out.c2.mono ?_
  rintro e w2 ⟨rfl, hb⟩
  have HA2 := Lib.hid (HA1.out.step hb)
  clear hb HA1
  obtain ⟨k0, k1, k2, k3, k4, k5, k6, k7, k8, k9, k10, k11, k12, k13, k14⟩ := HA2.out.cells
  go_wp2_with fail
  clear k0 k1 k2 k3 k4 k5 k6 k7 k8 k9 k10 k11 k12 k13 k14
  refine HA2.out.c3.mono ?_
  rintro e w3 ⟨rfl, hb⟩
  have HA3 := Lib.hid (HA2.out.step hb)
  clear hb HA2
  go_wp2_with fail
  refine HA3.out.c4.mono ?_
  rintro e w4 ⟨rfl, hb⟩
  have HA4 := Lib.hid (HA3.out.step hb)
  clear hb HA3
  obtain ⟨k0, k1, k2, k3, k4, k5, k6, k7, k8, k9, k10, k11, k12, k13, k14⟩ := HA4.out.cells
  go_wp2_with fail
  clear k0 k1 k2 k3 k4 k5 k6 k7 k8 k9 k10 k11 k12 k13 k14
  refine HA4.out.c5.mono ?_
  rintro e w5 ⟨rfl, hb⟩
  have HA5 := Lib.hid (HA4.out.step hb)
  clear hb HA4
  go_wp2_with fail
  refine (keyword_ok _ _).mono ?_
  rintro e w6 ⟨rfl, rfl⟩
  rw [show kwd ⟨#[79, 70]⟩ = true by kernel_rfl]
  go_wp2_with fail
  go_ret
  exact ⟨rfl, HA5.out.below⟩
end Go.Proofs.YtgmnojnalkhepaaGreatDoor
