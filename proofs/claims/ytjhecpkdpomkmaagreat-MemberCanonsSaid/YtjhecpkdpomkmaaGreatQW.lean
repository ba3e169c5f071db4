/-
  A bundle of texts, one behind the other: MbL4, MbL5, MbL6, MbL8.
-/
import Derived.Test.YtjhecpkdpomkmaaGreatQV
import Derived.Test.YtjhecpkdpomkmaaGreatQSA
import Derived.Laws.AppendOwnNone
import Derived.Laws.OwnMore
namespace Go.Proofs.YtjhecpkdpomkmaaGreat
open Go.RowKit
set_option linter.unusedVariables false
set_option linter.unusedSimpArgs false
set_option maxRecDepth 100000

def noDL : DL := ⟨none, 0, 0, fun _ => .nil⟩
def noFL : FL := ⟨none, 0, 0, fun _ => ⟨⟨#[]⟩, 0, false, noDL⟩⟩
def noRS : RS := ⟨none, 0, 0, fun _ => (0, 0)⟩
def noNL : NL := ⟨none, 0, 0, fun _ => 0⟩
def awR (k : Int) (p : FL) : DT := ⟨k, false, noRS, 0, 0, ⟨#[]⟩, noSL, noSL, p, noFL, noNL, 0⟩
/-- its fields: 'a' of row 1 with a default, 'b' of row 2 -/
def awF (b : Nat) : FL := ⟨some ⟨b + 1, 0, none⟩, 2, 2, fun k => if k = 0 then ⟨⟨#[97]⟩, 1, false, ⟨some ⟨b, 0, none⟩, 1, 1, fun _ => leafV 1 1 ⟨#[]⟩⟩⟩ else ⟨⟨#[98]⟩, 2, false, noDL⟩⟩
def awT (b : Nat) : TB := ⟨some ⟨b + 2, 0, none⟩, 3, 3, fun i => if i = 0 then awR 8 (awF b) else if i = 1 then awR 1 noFL else awR 4 noFL⟩
/-- its value, whose one name is s -/
def awV (b : Nat) (s : ByteArray) : VT := .mk 8 0 ⟨#[]⟩ ⟨some ⟨b + 3, 0, none⟩, 1, 1, fun _ => s⟩ (some ⟨b + 4, 0, none⟩) 1 1 fun _ => leafV 4 0 ⟨#[]⟩
theorem aw_set (k : Int) (p : FL) (hk : hasSet k = false) : (awR k p).setOk = true := by
  have e : (awR k p).set.l = [] := rfl
  have h2 : (k == 2) = false := by
    unfold hasSet at hk
    cases h : (k == 2) with
    | false => rfl
    | true => rw [h] at hk; cases hk
  unfold DT.setOk
  rw [e]
  have hr : rgt [] := ⟨List.Pairwise.nil, fun r h => (by cases h)⟩
  have h0 : (awR k p).set.n = 0 := rfl
  have h1 : (awR k p).kind = k := rfl
  rw [h0, h1, hk]
  simp [eLo, eHi, hr, awR]
theorem aw_parts (b : Nat) : (awR 8 (awF b)).partsOk 3 = true := by
  have hc : (awR 8 (awF b)).count = 2 := rfl
  have e0 : (awR 8 (awF b)).part 0 = ⟨⟨#[97]⟩, 1, false, ⟨some ⟨b, 0, none⟩, 1, 1, fun _ => leafV 1 1 ⟨#[]⟩⟩⟩ := rfl
  have e1 : (awR 8 (awF b)).part 1 = ⟨⟨#[98]⟩, 2, false, noDL⟩ := rfl
  unfold DT.partsOk
  rw [hc]
  have hr : List.range 2 = [0, 1] := rfl
  have hk : (awR 8 (awF b)).kind = 8 := rfl
  simp only [hk, hr, List.map_cons, List.map_nil, e0, e1, allN, FT.ok, noDL]
  have hp : (awR 8 (awF b)).pa.n = 2 := rfl
  have ha : (awR 8 (awF b)).ad.n = 0 := rfl
  rw [hp, ha]
  decide
theorem awT_right (b : Nat) : (awT b).right = true := by
  have h0 : (awR 8 (awF b)).right 3 = true := by
    unfold DT.right
    rw [aw_set 8 _ (by decide), aw_parts]
    rfl
  have h1 : (awR 1 noFL).right 3 = true := by
    unfold DT.right
    rw [aw_set 1 _ (by decide)]
    rfl
  have h2 : (awR 4 noFL).right 3 = true := by
    unfold DT.right
    rw [aw_set 4 _ (by decide)]
    rfl
  have hn : (awT b).n = 3 := rfl
  unfold TB.right
  rw [hn]
  have f0 : (awT b).f 0 = awR 8 (awF b) := rfl
  have f1 : (awT b).f 1 = awR 1 noFL := rfl
  have f2 : (awT b).f 2 = awR 4 noFL := rfl
  simp only [allN, f0, f1, f2, h0, h1, h2]
  decide
theorem awT_good (b : Nat) : (awT b).good = true := by
  unfold TB.good
  rw [awT_right]
  have hn : (awT b).n = 3 := rfl
  have h0 : ((awT b).f 0).defsOk (awT b) = true := rfl
  have h1 : ((awT b).f 1).defsOk (awT b) = true := rfl
  have h2 : ((awT b).f 2).defsOk (awT b) = true := rfl
  rw [hn]
  simp only [allN, h0, h1, h2]
  decide
theorem aw_has (b : Nat) (s : ByteArray) (z : Bool) (h : decide (seqGo (awR 8 (awF b)) ⟨some ⟨b + 3, 0, none⟩, 1, 1, fun _ => s⟩ (fun j x => (leafV 4 0 ⟨#[]⟩).has (awT b) x) 2 = some 1) = z) : (awV b s).has (awT b) 0 = z := by
  unfold awV
  rw [has_mk]
  have f0 : (awT b).f 0 = awR 8 (awF b) := rfl
  have hk : (awR 8 (awF b)).kind = 8 := rfl
  have hc : (awR 8 (awF b)).count = 2 := rfl
  unfold hasPtB
  rw [f0, hk, hc]
  simp only [Int.reduceEq, if_false, if_true, or_self]
  rw [h]
  rfl
theorem sAB : sEq ⟨#[98]⟩ ⟨#[97]⟩ = false := by rw [sEq_eq]; decide
theorem aw_chk (b : Nat) : chk (awT b) (awV b ⟨#[98]⟩) = 0 := by
  refine chk_zero.2 ⟨awT_good b, rfl, aw_has b _ _ (decide_eq_true ?_)⟩
  have e0 : (awR 8 (awF b)).part 0 = ⟨⟨#[97]⟩, 1, false, ⟨some ⟨b, 0, none⟩, 1, 1, fun _ => leafV 1 1 ⟨#[]⟩⟩⟩ := rfl
  have e1 : (awR 8 (awF b)).part 1 = ⟨⟨#[98]⟩, 2, false, noDL⟩ := rfl
  have s1 : seqGo (awR 8 (awF b)) ⟨some ⟨b + 3, 0, none⟩, 1, 1, fun _ => ⟨#[98]⟩⟩ (fun j x => (leafV 4 0 ⟨#[]⟩).has (awT b) x) 1 = some 0 :=
    seq_skip (k := 0) rfl (by rw [e0]; simp only [sAB]; decide) (by rw [e0]; simp)
  exact seq_take (k := 1) s1 ⟨Nat.zero_lt_one, by rw [e1]; exact sEq_refl _⟩ (by rw [e1]; rfl)
theorem aw_chk4 (b : Nat) : chk (awT b) (awV b ⟨#[97]⟩) = 4 := by
  have e0 : (awR 8 (awF b)).part 0 = ⟨⟨#[97]⟩, 1, false, ⟨some ⟨b, 0, none⟩, 1, 1, fun _ => leafV 1 1 ⟨#[]⟩⟩⟩ := rfl
  have s1 : seqGo (awR 8 (awF b)) ⟨some ⟨b + 3, 0, none⟩, 1, 1, fun _ => ⟨#[97]⟩⟩ (fun j x => (leafV 4 0 ⟨#[]⟩).has (awT b) x) 1 = none := by
    simp only [seqGo]
    rw [e0, if_pos ⟨Nat.zero_lt_one, sEq_refl _⟩]
    rfl
  have s2 := seq_none (K := 2) (by omega : 1 ≤ 2) s1
  unfold chk
  have h1 : (awV b ⟨#[97]⟩).deeper 40 = false := rfl
  have h2 : (awV b ⟨#[97]⟩).has (awT b) 0 = false := aw_has b _ _ (by rw [s2]; rfl)
  rw [awT_good, h1, h2]
  rfl
/-- its value with all defaults: 'a' ahead of 'b' -/
theorem aw_full (b : Nat) (v' : VT) (h : (awV b ⟨#[98]⟩).full (awT b) 0 v') :
    ∃ nm a cap ch k0, v' = .mk 8 0 ⟨#[]⟩ nm a 2 cap ch ∧ nm.n = 2 ∧ nm.f 0 = ⟨#[97]⟩ ∧ ∃ s1 nm1 a1 n1 cap1 ch1, ch 0 = .mk k0 1 s1 nm1 a1 n1 cap1 ch1 := by
  obtain ⟨nm', a', n', cap', ch', rfl, h2⟩ := h
  have f0 : (awT b).f 0 = awR 8 (awF b) := rfl
  have hk : (awR 8 (awF b)).kind = 8 := rfl
  have hc : (awR 8 (awF b)).count = 2 := rfl
  rw [f0, hk, hc, if_neg (by decide), if_neg (by decide), if_pos rfl] at h2
  obtain ⟨h3, h4⟩ := h2
  have e0 : (awR 8 (awF b)).part 0 = ⟨⟨#[97]⟩, 1, false, ⟨some ⟨b, 0, none⟩, 1, 1, fun _ => leafV 1 1 ⟨#[]⟩⟩⟩ := rfl
  have e1 : (awR 8 (awF b)).part 1 = ⟨⟨#[98]⟩, 2, false, noDL⟩ := rfl
  rcases h4 with ⟨x0, y0, h5, hx, rfl, _⟩ | ⟨y0, h5, _⟩
  · obtain rfl : x0 = 0 := by
      have : (1 : Nat) = x0 + 1 := hx
      omega
    rcases h5 with ⟨x1, y1, _, hx1, _⟩ | ⟨y1, h6, rfl, _, h7⟩
    · omega
    · obtain ⟨_, rfl⟩ := h6
      rw [e0] at h7 h3
      obtain ⟨h8, h9⟩ := h7 0 Nat.zero_lt_one
      obtain ⟨nm1, a1, cap1, ch1, h10, _⟩ := h9
      exact ⟨nm', a', cap', ch', 1, rfl, h3, h8, _, _, _, _, _, _, h10⟩
  · rcases h5 with ⟨x1, y1, _, hx1, _, hm, _⟩ | ⟨y1, h6, _⟩
    · rw [e0] at hm
      have h8 := hm.2
      rw [show (⟨⟨#[97]⟩, 1, false, ⟨some ⟨b, 0, none⟩, 1, 1, fun _ => leafV 1 1 ⟨#[]⟩⟩⟩ : FT).name = ⟨#[97]⟩ from rfl, sAB] at h8
      cases h8
    · exact absurd (show (1 : Nat) = 0 from h6.1) (by decide)
end Go.Proofs.YtjhecpkdpomkmaaGreat

namespace Go.Proofs.YtjhecpkdpomkmaaGreat
open Go.RowKit
set_option linter.unusedVariables false
set_option linter.unusedSimpArgs false
set_option maxRecDepth 100000

theorem rowAt_bx {W : World} {b n k : Nat} {cs : Array Value} {T : TypeId} {cells : Nat → List Value} (hb : Bx W b cs T) (hn : n ≤ 140737488355328) (hc : ∀ i, i < n → ∀ j u, (cells i)[j]? = some u → cs[i * k + j]? = some u) : RowAt W.heap.size W (some ⟨b, 0, none⟩) n n k cells :=
  ⟨Nat.le_refl _, hn, fun h => (by cases h), fun _ => ⟨b, 0, rfl, hb.lt, fun i hi j u hj => by
    rw [Nat.zero_add]
    exact hb.cell _ (hc i hi j u hj)⟩⟩
theorem rowAt_no (B : Nat) (W : World) (k : Nat) (cells : Nat → List Value) : RowAt B W none 0 0 k cells := (row_none W k cells).mono (Nat.zero_le B)
theorem i64_0 : I64 0 := by unfold I64; omega
theorem awR_in (B : Nat) (W : World) (k : Int) (p : FL) (hk : I64 k) (hp : FLIn B W p) : DTIn B W (awR k p) :=
  ⟨⟨hk, i64_0, i64_0, i64_0, (by decide : (⟨#[]⟩ : ByteArray).size ≤ 140737488355328)⟩, ⟨rowAt_no _ _ _ _, fun i h => absurd h (Nat.not_lt_zero i)⟩, noSL_in _ _, noSL_in _ _, hp, ⟨rowAt_no _ _ _ _, fun i h => absurd h (Nat.not_lt_zero i)⟩, ⟨rowAt_no _ _ _ _, fun i h => absurd h (Nat.not_lt_zero i)⟩⟩
theorem aw_val {W : World} {b : Nat} {s : ByteArray} {S T : TypeId} (hs : s.size ≤ 140737488355328) (h3 : Bx W (b + 3) #[.string s] S) (h4 : Bx W (b + 4) #[.int .i64 4, .int .i64 0, .string ⟨#[]⟩, .slice none 0 0, .slice none 0 0] T) : VIn W.heap.size W (awV b s) := by
  have hi : ∀ z : Int, z = 0 ∨ z = 4 ∨ z = 8 ∨ z = 1 → I64 z := fun z hz => by unfold I64; omega
  have he : (⟨#[]⟩ : ByteArray).size ≤ 140737488355328 := by decide
  refine ⟨⟨hi _ (by omega), hi _ (by omega), he, ⟨rowAt_bx h3 (show (1 : Nat) ≤ 140737488355328 by decide) (fun i hi j u hj => ?_), fun i hi => hs⟩⟩, rowAt_bx h4 (by decide) (fun i hi j u hj => ?_), fun i _ => leafV_in _ _ (hi _ (by omega)) (hi _ (by omega)) he⟩
  · obtain rfl : i = 0 := by
      have : i < 1 := hi
      omega
    rw [Nat.zero_mul, Nat.zero_add]
    simpa using hj
  · obtain rfl : i = 0 := by omega
    rw [Nat.zero_mul, Nat.zero_add]
    have h5 : (leafV 4 0 ⟨#[]⟩).cells[j]? = some u := hj
    rw [leafV_cells] at h5
    simpa using h5
theorem aw_fl {W : World} {b : Nat} {S T : TypeId} (h0 : Bx W b #[.int .i64 1, .int .i64 1, .string ⟨#[]⟩, .slice none 0 0, .slice none 0 0] T) (h1 : Bx W (b + 1) #[.string ⟨#[97]⟩, .int .i64 1, .bool false, .slice (some ⟨b, 0, none⟩) 1 1, .string ⟨#[98]⟩, .int .i64 2, .bool false, .slice none 0 0] S) : FLIn W.heap.size W (awF b) := by
  have h1' : I64 1 := by unfold I64; omega
  have h2' : I64 2 := by unfold I64; omega
  have he : (⟨#[]⟩ : ByteArray).size ≤ 140737488355328 := by decide
  refine ⟨rowAt_bx h1 (show (2 : Nat) ≤ 140737488355328 by decide) (fun i hi j u hj => ?_), fun i hi => ?_⟩
  · have hi2 : i < 2 := hi
    rcases (by omega : i = 0 ∨ i = 1) with rfl | rfl
    · have h5 : [Value.string ⟨#[97]⟩, .int .i64 1, .bool false, .slice (some ⟨b, 0, none⟩) 1 1][j]? = some u := hj
      match j, h5 with
      | 0, h5 => exact h5
      | 1, h5 => exact h5
      | 2, h5 => exact h5
      | 3, h5 => exact h5
    · have h5 : [Value.string ⟨#[98]⟩, .int .i64 2, .bool false, .slice none 0 0][j]? = some u := hj
      match j, h5 with
      | 0, h5 => exact h5
      | 1, h5 => exact h5
      | 2, h5 => exact h5
      | 3, h5 => exact h5
  · have hi2 : i < 2 := hi
    rcases (by omega : i = 0 ∨ i = 1) with rfl | rfl
    · refine ⟨(by decide : (⟨#[97]⟩ : ByteArray).size ≤ 140737488355328), h1', rowAt_bx h0 (show (1 : Nat) ≤ 140737488355328 by decide) (fun i hi j u hj => ?_), fun i _ => leafV_in _ _ h1' h1' he⟩
      obtain rfl : i = 0 := by
        have : i < 1 := hi
        omega
      rw [Nat.zero_mul, Nat.zero_add]
      have h5 : (leafV 1 1 ⟨#[]⟩).cells[j]? = some u := hj
      rw [leafV_cells] at h5
      simpa using h5
    · exact ⟨(by decide : (⟨#[98]⟩ : ByteArray).size ≤ 140737488355328), h2', rowAt_no _ _ _ _, fun i h => absurd h (Nat.not_lt_zero i)⟩
theorem aw_tb {W : World} {b : Nat} {R S T : TypeId} (h0 : Bx W b #[.int .i64 1, .int .i64 1, .string ⟨#[]⟩, .slice none 0 0, .slice none 0 0] T) (h1 : Bx W (b + 1) #[.string ⟨#[97]⟩, .int .i64 1, .bool false, .slice (some ⟨b, 0, none⟩) 1 1, .string ⟨#[98]⟩, .int .i64 2, .bool false, .slice none 0 0] S)
    (h2 : Bx W (b + 2) #[.int .i64 8, .bool false, .slice none 0 0, .int .i64 0, .int .i64 0, .string ⟨#[]⟩, .slice none 0 0, .slice none 0 0, .slice (some ⟨b + 1, 0, none⟩) 2 2, .slice none 0 0, .slice none 0 0, .int .i64 0, .int .i64 1, .bool false, .slice none 0 0, .int .i64 0, .int .i64 0, .string ⟨#[]⟩, .slice none 0 0, .slice none 0 0, .slice none 0 0, .slice none 0 0, .slice none 0 0, .int .i64 0, .int .i64 4, .bool false, .slice none 0 0, .int .i64 0, .int .i64 0, .string ⟨#[]⟩, .slice none 0 0, .slice none 0 0, .slice none 0 0, .slice none 0 0, .slice none 0 0, .int .i64 0] R) : TBIn W.heap.size W (awT b) := by
  have hn : FLIn W.heap.size W noFL := ⟨rowAt_no _ _ _ _, fun i h => absurd h (Nat.not_lt_zero i)⟩
  refine ⟨rowAt_bx h2 (show (3 : Nat) ≤ 140737488355328 by decide) (fun i hi j u hj => ?_), fun i hi => ?_⟩
  · have hi2 : i < 3 := hi
    rcases (by omega : i = 0 ∨ i = 1 ∨ i = 2) with rfl | rfl | rfl
    · have h5 : [Value.int .i64 8, .bool false, .slice none 0 0, .int .i64 0, .int .i64 0, .string ⟨#[]⟩, .slice none 0 0, .slice none 0 0, .slice (some ⟨b + 1, 0, none⟩) 2 2, .slice none 0 0, .slice none 0 0, .int .i64 0][j]? = some u := hj
      match j, h5 with
      | 0, h5 => exact h5
      | 1, h5 => exact h5
      | 2, h5 => exact h5
      | 3, h5 => exact h5
      | 4, h5 => exact h5
      | 5, h5 => exact h5
      | 6, h5 => exact h5
      | 7, h5 => exact h5
      | 8, h5 => exact h5
      | 9, h5 => exact h5
      | 10, h5 => exact h5
      | 11, h5 => exact h5
    · have h5 : [Value.int .i64 1, .bool false, .slice none 0 0, .int .i64 0, .int .i64 0, .string ⟨#[]⟩, .slice none 0 0, .slice none 0 0, .slice none 0 0, .slice none 0 0, .slice none 0 0, .int .i64 0][j]? = some u := hj
      match j, h5 with
      | 0, h5 => exact h5
      | 1, h5 => exact h5
      | 2, h5 => exact h5
      | 3, h5 => exact h5
      | 4, h5 => exact h5
      | 5, h5 => exact h5
      | 6, h5 => exact h5
      | 7, h5 => exact h5
      | 8, h5 => exact h5
      | 9, h5 => exact h5
      | 10, h5 => exact h5
      | 11, h5 => exact h5
    · have h5 : [Value.int .i64 4, .bool false, .slice none 0 0, .int .i64 0, .int .i64 0, .string ⟨#[]⟩, .slice none 0 0, .slice none 0 0, .slice none 0 0, .slice none 0 0, .slice none 0 0, .int .i64 0][j]? = some u := hj
      match j, h5 with
      | 0, h5 => exact h5
      | 1, h5 => exact h5
      | 2, h5 => exact h5
      | 3, h5 => exact h5
      | 4, h5 => exact h5
      | 5, h5 => exact h5
      | 6, h5 => exact h5
      | 7, h5 => exact h5
      | 8, h5 => exact h5
      | 9, h5 => exact h5
      | 10, h5 => exact h5
      | 11, h5 => exact h5
  · have hi2 : i < 3 := hi
    rcases (by omega : i = 0 ∨ i = 1 ∨ i = 2) with rfl | rfl | rfl
    · exact awR_in _ _ 8 _ (by unfold I64; omega) (aw_fl h0 h1)
    · exact awR_in _ _ 1 _ (by unfold I64; omega) hn
    · exact awR_in _ _ 4 _ (by unfold I64; omega) hn
end Go.Proofs.YtjhecpkdpomkmaaGreat

namespace Go.Proofs.YtjhecpkdpomkmaaGreat
open Go.RowKit
set_option linter.unusedVariables false
set_option linter.unusedSimpArgs false
set_option maxRecDepth 100000

/-- a part of the row that must be there and has the name -/
def mustN (r : DT) (s : ByteArray) (n : Nat) : Bool := anyN (fun j => sEq (r.pa.f j).name s && (!(r.pa.f j).opt && decide ((r.pa.f j).d.n = 0))) n
/-- the table whose first row may be extended -/
def extT (d : TB) (a : Option Addr) (cap : Nat) : TB := ⟨a, d.n, cap, fun i => if i = 0 then { d.f 0 with ext := true } else d.f i⟩
end Go.Proofs.YtjhecpkdpomkmaaGreat

namespace Go.Proofs.YtjhecpkdpomkmaaGreat
open Go.RowKit
set_option linter.unusedVariables false
set_option linter.unusedSimpArgs false
set_option maxRecDepth 100000

theorem fiveX {W : World} {g : Nat} {v0 v1 v2 v3 v4 : Value} {T : TypeId} (h : Bx W g #[v0, v1, v2, v3, v4] T) :
    W.cell? ⟨g, 0, none⟩ = some v0 ∧ W.cell? ⟨g, 1, none⟩ = some v1 ∧ W.cell? ⟨g, 2, none⟩ = some v2 ∧ W.cell? ⟨g, 3, none⟩ = some v3 ∧ W.cell? ⟨g, 4, none⟩ = some v4 :=
  ⟨h.cell 0 rfl, h.cell 1 rfl, h.cell 2 rfl, h.cell 3 rfl, h.cell 4 rfl⟩
/-- the cells of the first k, one behind the other -/
def flatC (f : Nat → List Value) : Nat → List Value
  | 0 => []
  | k + 1 => flatC f k ++ f k
theorem flatC_congr {f g : Nat → List Value} {k : Nat} (h : ∀ i, i < k → f i = g i) : flatC f k = flatC g k := by
  induction k with
  | zero => rfl
  | succ k ih => simp only [flatC, ih (fun i hi => h i (by omega)), h k (by omega)]
theorem flatC_len {K : Nat} {f : Nat → List Value} : ∀ {k : Nat}, (∀ i, i < k → (f i).length = K) → (flatC f k).length = k * K
  | 0, _ => by simp [flatC]
  | k + 1, h => by
    have h1 := flatC_len (f := f) (k := k) (fun i hi => h i (by omega))
    have h2 := h k (by omega)
    simp only [flatC, List.length_append, h1, h2, Nat.succ_mul]
theorem flatC_add {f g : Nat → List Value} {n : Nat} : ∀ {m : Nat}, flatC f n ++ flatC g m = flatC (fun i => if i < n then f i else g (i - n)) (n + m)
  | 0 => by
    show flatC f n ++ [] = flatC _ n
    rw [List.append_nil]
    exact flatC_congr fun i hi => by rw [if_pos hi]
  | m + 1 => by
    show flatC f n ++ (flatC g m ++ g m) = flatC _ (n + m) ++ (if n + m < n then f (n + m) else g (n + m - n))
    rw [← List.append_assoc, flatC_add (m := m), if_neg (by omega), show n + m - n = m by omega]
theorem flatC_get {K : Nat} {f : Nat → List Value} : ∀ {k i j : Nat} {u : Value}, (∀ i, i < k → (f i).length = K) → i < k → (f i)[j]? = some u → (flatC f k)[i * K + j]? = some u
  | 0, _, _, _, _, hi, _ => absurd hi (Nat.not_lt_zero _)
  | k + 1, i, j, u, h, hi, hu => by
    have hl := flatC_len (f := f) (k := k) (fun i hi => h i (by omega))
    have hj : j < K := by
      obtain ⟨hj, _⟩ := List.getElem?_eq_some_iff.1 hu
      rw [h i hi] at hj
      exact hj
    simp only [flatC]
    rcases Nat.lt_or_ge i k with h1 | h1
    · have h2 : i * K + K ≤ k * K := by
        have := Nat.mul_le_mul_right K (show i + 1 ≤ k from h1)
        rwa [Nat.succ_mul] at this
      rw [List.getElem?_append_left (by omega)]
      exact flatC_get (fun i hi => h i (by omega)) h1 hu
    · obtain rfl : i = k := by omega
      rw [List.getElem?_append_right (by omega), hl, show i * K + j - i * K = j by omega]
      exact hu
theorem flatC_at {K : Nat} (hK : 0 < K) {f : Nat → List Value} : ∀ {k q : Nat} {u : Value}, (∀ i, i < k → (f i).length = K) → (flatC f k)[q]? = some u → ∃ i j, i < k ∧ q = i * K + j ∧ (f i)[j]? = some u
  | 0, _, _, _, h => by simp [flatC] at h
  | k + 1, q, u, h, hu => by
    have hl := flatC_len (f := f) (k := k) (fun i hi => h i (by omega))
    simp only [flatC] at hu
    rcases Nat.lt_or_ge q (k * K) with h1 | h1
    · rw [List.getElem?_append_left (by omega)] at hu
      obtain ⟨i, j, hi, hq, hj⟩ := flatC_at hK (fun i hi => h i (by omega)) hu
      exact ⟨i, j, by omega, hq, hj⟩
    · rw [List.getElem?_append_right (by omega), hl] at hu
      exact ⟨k, q - k * K, by omega, by omega, hu⟩
theorem flatC_one {f : Nat → List Value} {k : Nat} (h : ∀ i, i < k → ∀ v ∈ f i, v.oneCell' = true) : ∀ v ∈ flatC f k, v.oneCell' = true := by
  induction k with
  | zero => intro v hv; cases hv
  | succ k ih =>
    intro v hv
    simp only [flatC, List.mem_append] at hv
    rcases hv with hv | hv
    · exact ih (fun i hi => h i (by omega)) v hv
    · exact h k (by omega) v hv
/-- a row that lies there, as what is appended -/
theorem row_newsC {B K : Nat} (hK : 0 < K) {W : World} {a : Option Addr} {n cap : Nat} {f : Nat → List Value} (h : RowAt B W a n cap K f) (hl : ∀ i, i < n → (f i).length = K) :
    (a = none ∧ n = 0 ∧ cap = 0) ∨ ∃ ad, a = some ad ∧ ∀ W' : World, Below B W W' → ∀ j u, (flatC f n)[j]? = some u → W'.cell? (ad.add j) = some u := by
  rcases Nat.eq_zero_or_pos n with h0 | h0
  · cases a with
    | none => exact .inl ⟨rfl, (h.2.2.1 rfl).1, (h.2.2.1 rfl).2⟩
    | some ad => exact .inr ⟨ad, rfl, fun W' _ j u hu => by rw [h0] at hu; cases hu⟩
  · obtain ⟨g, o, rfl, hg, hc⟩ := h.2.2.2 h0
    refine .inr ⟨_, rfl, fun W' hb j u hu => ?_⟩
    obtain ⟨i, k, hi, rfl, hk⟩ := flatC_at hK hl hu
    rw [Addr.add_mid, show o + (i * K + k) = o + i * K + k by omega]
    exact (hb.cell (p := ⟨g, o + i * K + k, none⟩) hg).trans (hc i hi k u hk)
/-- a row of one's own, read -/
theorem own_rowC {A K : Nat} {W : World} {T : TypeId} {v : Value} {k : Nat} {f : Nat → List Value} (h : W.ownsRow A T K v k (flatC f k)) (hk : k ≤ 140737488355328) (hl : ∀ i, i < k → (f i).length = K) :
    ∃ a cap, v = .slice a k cap ∧ RowAt W.heap.size W a k cap K f ∧ rowP (A ≤ ·) a k := by
  rcases h.2 with ⟨rfl, rfl⟩ | ⟨g, cap, cur, rfl, hbg, hg, hnc, hcm, hsz, htk⟩
  · exact ⟨none, 0, rfl, (row_none W K _).mono (Nat.zero_le _), fun h => absurd h (Nat.lt_irrefl _)⟩
  · have hlt := (h.lt g rfl).2
    refine ⟨some ⟨g, 0, none⟩, cap, rfl, ⟨hnc, hk, fun h => (by cases h), fun h0 => ⟨g, 0, rfl, hlt, fun i hi j u hj => ?_⟩⟩, fun _ q o ha => (by cases ha; exact hbg)⟩
    have := h.cells rfl (i * K + j) u (flatC_get hl hi hj)
    rw [Addr.add_mid] at this
    rwa [show 0 + i * K + j = 0 + (i * K + j) by omega]
theorem one_dcells15 (r : DT) : r.cells.length = 12 ∧ ∀ v ∈ r.cells, v.oneCell' = true := by
  constructor
  · rfl
  · intro v hv
    simp [DT.cells, RS.v, SL.v, FL.v, NL.v] at hv
    rcases hv with rfl | rfl | rfl | rfl | rfl | rfl | rfl | rfl | rfl | rfl | rfl | rfl <;> rfl
def zeroD : Value := .agg #[.int .i64 0, .bool false, .slice none 0 0, .int .i64 0, .int .i64 0, .string ⟨#[]⟩, .slice none 0 0, .slice none 0 0, .slice none 0 0, .slice none 0 0, .slice none 0 0, .int .i64 0]
/-- an append of what may be nothing, outside a region that draws -/
theorem wpList_append_rowM {ops : Array Oper} {rest : List Oper} {o : Oper} {a : Act} {w : World} {Q : Exit → Act → World → Prop} (hgd : o.guard = none) (s x : Operand) (t : TypeId)
    (ho : o.op = .call { callee := .builtin .append, args := #[s, x], argTypes := #[t, t] })
    (base : Nat) (e : TypeId) (i : TypeInfo) (z : Value) (size bytes : Nat) (ht : Tryz.prog.underlying t = some (.slice e)) (hi : Tryz.prog.info? e = some i) (hz : i.zero = some z)
    (hsize : i.size = size) (hby : i.bytes = bytes) (hzs : z.cells.size = size) (hsz : 0 < size)
    (v : Value) (n : Nat) (xs : List Value) (hs : a.eval s = v) (hown : w.ownsRow base e size v n xs)
    (ad : Option Addr) (m c : Nat) (news : List Value) (hx : a.eval x = .slice ad m c) (hl : news.length = m * size) (hn : (ad = none ∧ m = 0 ∧ c = 0) ∨ ∃ d, ad = some d ∧ ∀ j u, news[j]? = some u → w.cell? (d.add j) = some u) (h1 : ∀ u ∈ news, u.oneCell' = true)
    (h63 : n + m ≤ maxLen) (hbytes : (n + m) * bytes ≤ 140737488355328) (hbase : base ≤ w.heap.size)
    (h : ∀ v' w', w'.ownsRow base e size v' (n + m) (xs ++ news) → w.grownBy w' v.ownBlock → wpList Tryz.prog ops Q rest (a.put o.dst v') w') : wpList Tryz.prog ops Q (o :: rest) a w := by
  rcases hn with ⟨rfl, rfl, rfl⟩ | ⟨d, rfl, hc⟩
  · rw [Nat.zero_mul] at hl
    obtain rfl := List.eq_nil_of_length_eq_zero hl
    refine wpList_append_own_none hgd s x t ho base e i size ht hi v n xs hs hown hx ?_
    exact h v w (by simpa using hown) (World.grownBy.refl _ _)
  · exact wpList_append_own _ hgd s x t ho base e i z size bytes ht hi hz hsize hby hzs hsz v n xs hs hown d m c news hx hl hc h1 h63 hbytes hbase fun v' w' h2 h3 _ => h v' w' h2 h3
theorem cells_new (w : World) (cs : List Value) (T : TypeId) : ∀ j u, cs[j]? = some u → (w.alloc (.cells cs.toArray T)).cell? ((⟨w.heap.size, 0, none⟩ : Addr).add j) = some u := fun j u hj => by
  rw [Addr.add_mid, Nat.zero_add]
  exact (Bx.new w cs.toArray T).cell j (by simpa using hj)
end Go.Proofs.YtjhecpkdpomkmaaGreat
