/-
  A bundle of texts, one behind the other: ShB, ShB2, ShW1, ShG, ShW2, ShW3, ShC3.
-/
import Derived.Test.YtgmnojnalkhepaaGreatDoorJB
import Derived.Test.YtgmnojnalkhepaaGreatDoorShelf
import Derived.Lib.Builder
import Derived.Lib.AppendStr
import Derived.Lib.OthersKept
import Derived.Lib.FrozenHead
import Derived.Test.YtgmnojnalkhepaaGreatDoorJA
import Derived.Lib.LaidTab
import Derived.Lib.ItoaLen
import Derived.Lib.AppendIntMem
import Derived.Lib.QuietBelow
/-
  Package shape's writer: its embedded builder: what is written on.
-/
namespace Go.Proofs.YtgmnojnalkhepaaGreatDoor
open Go.RowKit
set_option linter.unusedVariables false
set_option linter.unusedSimpArgs false
set_option maxRecDepth 100000

/-- block b is a writer that holds these octets; its row lies from B on -/
def Wr (B b : Nat) (l : List UInt8) (w : World) : Prop := Lib.IsBuilder 62 5 B b (Lib.byteCells l) w
def Wr1 (B b : Nat) (l : List UInt8) (w : World) : Prop := Lib.BuilderAt 62 5 B b (.pointer (some ⟨b, 0, none⟩)) (Lib.byteCells l) w
theorem Wr1.wr {B b : Nat} {l : List UInt8} {w : World} (h : Wr1 B b l w) : Wr B b l w := .inr h
theorem info_Bld : ∃ j, Tryz.prog.info? 60 = some j ∧ j.size = 2 := by
  have h : (Tryz.prog.info? 60).map (·.size) = some 2 := by kernel_rfl
  obtain ⟨j, h1, h2⟩ := Option.map_eq_some_iff.1 h
  exact ⟨j, h1, h2⟩
theorem lies_Bld : liesAt Tryz.prog Tryz.prog.depth 62 (2 / Tryz.prog.cellsOf 62) 0 60 1 = true := by kernel_rfl
set_option maxHeartbeats 2000000 in
theorem check_fresh (b : Nat) (w : World) (h0 : w.cell? ⟨b, 0, none⟩ = some (.pointer none)) (hsh : w.shape? b = some (62, 2)) (hfz : w.frozen? ⟨b, 0, none⟩ = false) :
    Calls Tryz.prog 93 #[.pointer (some ⟨b, 0, none⟩)] w fun e w' => e = .returned (.tuple #[]) ∧ w' = w.setCell ⟨b, 0, none⟩ (.pointer (some ⟨b, 0, none⟩)) := by
  obtain ⟨j, hj, hjs⟩ := info_Bld
  go_enter Tryz.func93, Tryz.ntmps93
  go_wp2_with fail
  rw [Lib.run_to_unsafe w ⟨b, 0, none⟩ Tryz.underlying57 Tryz.underlying128 hj (by rw [hjs]; decide) hsh (Nat.zero_lt_succ 1)]
  simp only [Result.andThen]
  rw [Oper.upon_value]
  go_wp2_with fail
  rw [run_callFunc_extern Tryz.func111 (by kernel_rfl) (by kernel_rfl) (by kernel_rfl) (e := Extern.AbiNoEscape.same) (by kernel_rfl)]
  rw [Lib.run_noEscape]
  simp only [Result.andThen]
  rw [Oper.upon_value]
  go_wp2_with fail
  rw [Lib.run_from_unsafe w ⟨b, 0, none⟩ Tryz.underlying128 Tryz.underlying57 hj hsh lies_Bld]
  simp only [Result.andThen]
  rw [Oper.upon_value]
  go_wp2_with fail
  go_end0
  exact ⟨rfl, rfl⟩
set_option maxHeartbeats 2000000 in
theorem check_used (b : Nat) (w : World) (h0 : w.cell? ⟨b, 0, none⟩ = some (.pointer (some ⟨b, 0, none⟩))) :
    Calls Tryz.prog 93 #[.pointer (some ⟨b, 0, none⟩)] w fun e w' => e = .returned (.tuple #[]) ∧ w' = w := by
  obtain ⟨j, hj, _⟩ := info_Bld
  go_enter Tryz.func93, Tryz.ntmps93
  go_wp2_with fail
  rw [Lib.run_neq_ptr_same w _ Tryz.underlying57 hj]
  go_wp2_with fail
  go_end0
  exact ⟨rfl, rfl⟩
theorem check_ok (B b : Nat) (bs : List Value) (w : World) (h : Lib.IsBuilder 62 5 B b bs w) :
    Calls Tryz.prog 93 #[.pointer (some ⟨b, 0, none⟩)] w fun e w' => e = .returned (.tuple #[]) ∧ (Lib.BuilderAt 62 5 B b (.pointer (some ⟨b, 0, none⟩)) bs w' ∧ Below B w w' ∧ Lib.OthersKept 5 (some b) w w') := by
  rcases h with h | h
  · refine (check_fresh b w h.cell0 h.shape h.frozen0).mono ?_
    rintro e w' ⟨rfl, rfl⟩
    exact ⟨rfl, h.used _, (Below.refl B w).setCell (p := ⟨b, 0, none⟩) h.1 _, (Lib.OthersKept.refl _ _ w).setCell ⟨b, 0, none⟩ rfl _⟩
  · refine (check_used b w h.cell0).mono ?_
    rintro e w' ⟨rfl, rfl⟩
    exact ⟨rfl, h, Below.refl B _, Lib.OthersKept.refl _ _ _⟩
theorem info_byte : (Tryz.prog.info? 5).map (fun i => (i.zero, i.size, i.bytes)) = some (some (.int .u8 0), 1, 1) := by kernel_rfl
theorem str_bytes (s : ByteArray) : Lib.strCells s = Lib.byteCells s.data.toList := rfl
set_option maxHeartbeats 4000000 in
theorem writeString_ok (B b : Nat) (l : List UInt8) (s : ByteArray) (w : World) (h : Wr B b l w) (hlen : l.length + s.size ≤ 140737488355328) (hBw : B ≤ w.heap.size) :
    Calls Tryz.prog 72 #[.pointer (some ⟨b, 0, none⟩), .string s] w fun e w' => e = .returned (.tuple #[.int .i64 s.size, .nilIface]) ∧ Wr B b (l ++ s.data.toList) w' ∧ Below B w w' ∧ Lib.OthersKept 5 (some b) w w' := by
  obtain ⟨i0, hi, hz0, hz1, hz2⟩ := info_parts info_byte
  have HC := Lib.hid (check_ok B b _ w h)
  have hbl : (Lib.byteCells l).length = l.length := Lib.byteCells_length l
  clear h
  go_enter Tryz.func72, Tryz.ntmps72
  go_wp2_with fail
  refine HC.out.mono ?_
  rintro e w1 ⟨rfl, h1, hb1, hk1⟩
  obtain ⟨hB, v, hbk, hown, hne⟩ := h1
  rw [hbl] at hown
  have c0 : w1.cell? ⟨b, 0, none⟩ = some (.pointer (some ⟨b, 0, none⟩)) := by rw [Lib.cell_of_heap hbk]; rfl
  have c1 : w1.cell? ⟨b, 1, none⟩ = some v := by rw [Lib.cell_of_heap hbk]; rfl
  go_wp2_with (at_builtin; refine Lib.wpList_append_own_string _ rfl _ _ 58 9 rfl B 5 i0 Tryz.underlying58 Tryz.underlying9 hi hz0 hz1 hz2 _ _ _ rfl hown s rfl ?c3 ?c4 ?c5 ?_)
  case c3 => unfold maxLen; omega
  case c4 => omega
  case c5 => have := hb1.size; omega
  intro v' w2 hown' hgrow hnil
  have hlt : b < w1.heap.size := (Array.getElem?_eq_some_iff.1 hbk).1
  have hb2 : w2.heap[b]? = some (.cells #[.pointer (some ⟨b, 0, none⟩), v] 62 (0, 0)) := by
    rw [hgrow.block b hlt (fun e => hne e.symm)]
    exact hbk
  have d0 : w2.cell? ⟨b, 0, none⟩ = some (.pointer (some ⟨b, 0, none⟩)) := by rw [Lib.cell_of_heap hb2]; rfl
  have d1 : w2.cell? ⟨b, 1, none⟩ = some v := by rw [Lib.cell_of_heap hb2]; rfl
  have f1 : w2.frozen? ⟨b, 1, none⟩ = false := Lib.frozen_of_heap hb2 1
  have hsh : ∃ a c, v' = .slice a (l.length + s.size) c := by
    rcases hown'.2 with ⟨e1, e2⟩ | ⟨g, cap, cur, hv, _⟩
    · exact ⟨none, 0, by rw [e1, e2]⟩
    · exact ⟨_, cap, hv⟩
  obtain ⟨a', c', hv'⟩ := hsh
  have HO := Lib.hid hown'
  have HG := Lib.hid hgrow
  have HW := Lib.hid hown
  have HB2 := Lib.hid hb2
  have HB1 := Lib.hid hb1
  have HK1 := Lib.hid hk1
  have HBB := Lib.hid hB
  subst hv'
  clear hown' hgrow hown hb2 hb1 hk1 hB hnil c0 c1 hbk
  go_wp2_with fail
  go_ret2
  have hlen2 : (Lib.byteCells l ++ Lib.strCells s) = Lib.byteCells (l ++ s.data.toList) := by
    rw [str_bytes]
    unfold Lib.byteCells
    rw [List.map_append]
  have hl3 : (Lib.byteCells (l ++ s.data.toList)).length = l.length + s.size := by rw [Lib.byteCells_length, List.length_append]; rfl
  have hown2 := HO.out
  rw [hlen2, ← hl3] at hown2
  refine ⟨rfl, .inr ?_, ?_, ((HK1.out).grown HG.out (Lib.ownsRowF_kind (World.ownsRowF_of HW.out))).setCell ⟨b, 1, none⟩ rfl _⟩
  · have hput := Lib.BuilderAt.put (T := 62) (e := 5) HBB.out HB2.out (bs' := Lib.byteCells (l ++ s.data.toList)) hown2 (by decide)
    rw [hl3] at hput
    exact hput
  · exact (HB1.out.grown HG.out (by have := HB1.out.size; omega) (fun k hk => (HW.out.lt k hk).1)).setCell (p := ⟨b, 1, none⟩) HBB.out _
end Go.Proofs.YtgmnojnalkhepaaGreatDoor

/-
  Package shape's writer: what was written, as a string.
-/
namespace Go.Proofs.YtgmnojnalkhepaaGreatDoor
open Go.RowKit
set_option linter.unusedVariables false
set_option linter.unusedSimpArgs false
set_option maxRecDepth 100000

set_option maxHeartbeats 4000000 in
/-- what was written, as a string (at least one octet) -/
theorem wrString_ok (B b : Nat) (l : List UInt8) (w : World) (h : Wr B b l w) (h0 : l ≠ []) :
    Calls Tryz.prog 24 #[.pointer (some ⟨b, 0, none⟩)] w fun e w' => e = .returned (.string ⟨l.toArray⟩) ∧ Below B w w' := by
  obtain ⟨p, hB, v, hbk, hown, hne⟩ : ∃ p, Lib.BuilderAt 62 5 B b p (Lib.byteCells l) w := by
    rcases h with h | h
    · exact ⟨_, h⟩
    · exact ⟨_, h⟩
  have hl0 : l.length ≠ 0 := by simpa using h0
  rw [Lib.byteCells_length] at hown
  obtain ⟨g, cap, cur, rfl, hbg, hg, hnc, hcm, hcs, htake⟩ : ∃ g cap cur, v = .slice (some ⟨g, 0, none⟩) l.length cap ∧ B ≤ g ∧ w.heap[g]? = some (.cells cur 5 (0, 0)) ∧ l.length ≤ cap ∧ cap ≤ maxLen ∧ cur.size = cap * 1 ∧ cur.toList.take (l.length * 1) = Lib.byteCells l := by
    rcases hown.2 with ⟨_, hz⟩ | ⟨g, cap, cur, hv, r⟩
    · exact absurd hz hl0
    · exact ⟨g, cap, cur, hv, r⟩
  have c1 : w.drew.cell? ⟨b, 1, none⟩ = some (.slice (some ⟨g, 0, none⟩) l.length cap) := by
    have : w.drew.heap[b]? = some (.cells #[p, .slice (some ⟨g, 0, none⟩) l.length cap] 62 (0, 0)) := hbk
    rw [Lib.cell_of_heap this]; rfl
  have hSD : (Builtin.unsafeSliceData_ #[58] 71 #[.slice (some ⟨g, 0, none⟩) l.length cap]).run Tryz.prog w.drew = .ok (.pointer (some ⟨g, 0, none⟩)) w.drew :=
    Lib.run_unsafeSliceData_row _ _ _ _ _ _ (by omega)
  have hUS : (Builtin.unsafeString_ #[71, 3] 9 #[.pointer (some ⟨g, 0, none⟩), .int .i64 l.length]).run Tryz.prog w.drew = .ok (.string ⟨l.toArray⟩) (w.drew.freeze ⟨g, 0, none⟩ l.length) := by
    refine Lib.run_unsafeString_row w.drew 71 3 9 5 Tryz.underlying71 (by kernel_rfl) g cur.size (by have hg' : w.drew.heap[g]? = some (.cells cur 5 (0, 0)) := hg; simp [World.shape?, hg']) l h0 (by omega) (by unfold maxLen at hcm; omega) ?_
    intro j x hx
    have := hown.cells (g := g) rfl j (.int .u8 x.toNat) (by simp [Lib.byteCells, hx])
    exact this
  have mixed : Tryz.prog.follows .mixedOrders = true := by kernel_rfl
  clear hown htake hcs hne h
  go_enter Tryz.func24, Tryz.ntmps24
  go_wp2_with fail
  go_region_o
  all_goals (go_wp2_with fail; go_ret; exact ⟨rfl, Lib.below_freeze (Below.drew (Below.refl B w)) (p := ⟨g, 0, none⟩) hbg _⟩)
end Go.Proofs.YtgmnojnalkhepaaGreatDoor

/-
  Package shape's writer: 'put'.
-/
namespace Go.Proofs.YtgmnojnalkhepaaGreatDoor
open Go.RowKit
set_option linter.unusedVariables false
set_option linter.unusedSimpArgs false
set_option maxRecDepth 100000

/-- texts one behind the other -/
def catN (f : Nat → ByteArray) : Nat → List UInt8
  | 0 => []
  | n + 1 => catN f n ++ (f n).data.toList
theorem catN_len {f : Nat → ByteArray} {m : Nat} {n : Nat} (h : ∀ i, i < n → (f i).size ≤ m) : (catN f n).length ≤ n * m := by
  induction n with
  | zero => simp [catN]
  | succ n ih =>
    have h1 := ih (fun i hi => h i (by omega))
    have h2 := h n (by omega)
    have h3 : (f n).data.toList.length = (f n).size := rfl
    simp only [catN, List.length_append, h3]
    rw [Nat.succ_mul]
    omega
/-- a row of strings in a block of its own, that is no row of octets -/
def StrRow (w : World) (g n : Nat) (f : Nat → ByteArray) : Prop := ∃ cs t, w.heap[g]? = some (.cells cs t (0, 0)) ∧ t ≠ 5 ∧ ∀ i, i < n → cs[i]? = some (.string (f i))
theorem StrRow.kept {w w' : World} {g n b : Nat} {f : Nat → ByteArray} (h : StrRow w g n f) (hk : Lib.OthersKept 5 (some b) w w') (hb : g ≠ b) : StrRow w' g n f := by
  obtain ⟨cs, t, h1, h2, h3⟩ := h
  exact ⟨cs, t, hk g _ h1 (fun e => hb (Option.some.inj e)) (fun c fz e => h2 (by injection e)), h2, h3⟩
theorem StrRow.cell {w : World} {g n : Nat} {f : Nat → ByteArray} (h : StrRow w g n f) {i : Nat} (hi : i < n) : w.cell? ⟨g, i, none⟩ = some (.string (f i)) := by
  obtain ⟨cs, t, h1, h2, h3⟩ := h
  exact (cell_of_row w g i cs t _ h1).trans (h3 i hi)
def RelPut (w : World) (B b g n : Nat) (f : Nat → ByteArray) (l : List UInt8) (iv : Value) (wr : World) : Prop :=
  ∃ i : Nat, i ≤ n ∧ iv = .int .i64 (i : Nat) ∧ Wr B b (l ++ catN f i) wr ∧ Below B w wr ∧ Lib.OthersKept 5 (some b) w wr
theorem catN_mono {f : Nat → ByteArray} : ∀ {n i : Nat}, i ≤ n → (catN f i).length ≤ (catN f n).length
  | 0, i, h => by obtain rfl : i = 0 := by omega
                  exact Nat.le_refl _
  | n + 1, i, h => by
    rcases Nat.lt_or_ge i (n + 1) with h1 | h1
    · have := catN_mono (f := f) (n := n) (i := i) (by omega)
      simp only [catN, List.length_append]
      omega
    · obtain rfl : i = n + 1 := by omega
      exact Nat.le_refl _
set_option maxHeartbeats 4000000 in
theorem put_ok (B b : Nat) (l : List UInt8) (w : World) (g n cap : Nat) (f : Nat → ByteArray) (hw : Wr B b l w) (hB : B ≤ w.heap.size) (hrow : StrRow w g n f) (hgb : g ≠ b) (hn : n ≤ 1000) (hlen : l.length + (catN f n).length ≤ 140737488355328) :
    Calls Tryz.prog 36 #[.pointer (some ⟨b, 0, none⟩), .slice (some ⟨g, 0, none⟩) n cap] w fun e w' => e = .returned (.tuple #[]) ∧ Wr B b (l ++ catN f n) w' ∧ Below B w w' ∧ Lib.OthersKept 5 (some b) w w' := by
  have HW := Lib.hid hw
  have HR := Lib.hid hrow
  have HB0 := Lib.hid (Below.refl B w)
  have HK0 := Lib.hid (Lib.OthersKept.refl 5 (some b) w)
  have HBB := Lib.hid hB
  have HL := Lib.hid hlen
  clear hw hrow hB hlen
  go_enter Tryz.func36, Tryz.ntmps36
  go_wp2_with fail
  go_loopw [8] (fun iv wr => RelPut w B b g n f l iv wr) (fun iv _ => n - (Lib.intOf iv).toNat)
  case atStart => exact ⟨0, Nat.zero_le _, rfl, by simp only [catN, List.append_nil]; exact HW.out, HB0.out, HK0.out⟩
  case round =>
    obtain ⟨i, hi, rfl, hwr, hbel, hkp⟩ := hrel
    have HB := Lib.hid hbel
    have HK := Lib.hid hkp
    have hsz := hbel.size
    have HRI := Lib.hid (HR.out.kept hkp hgb)
    by_cases hlt : i < n
    · have q1 : decide ((i : Int) < (n : Int)) = true := decide_eq_true (by omega)
      have q1n : decide (i < n) = true := decide_eq_true hlt
      have k0 := HRI.out.cell hlt
      have hl2 : (l ++ catN f i).length + (f i).size ≤ 140737488355328 := by
        have h1 := catN_mono (f := f) (n := n) (i := i + 1) (by omega)
        have h2 := HL.out
        have h3 : (f i).data.toList.length = (f i).size := rfl
        simp only [catN, List.length_append, h3] at h1 ⊢
        omega
      have HC := Lib.hid (writeString_ok B b _ (f i) wr hwr hl2 (by have := HBB.out; omega))
      have q3 : IntKind.i64.wrap ((i : Int) + 1) = ((i + 1 : Nat) : Int) := wrap_succ hlt (by omega)
      clear hwr hbel hkp hl2
      go_wp2_with fail
      refine HC.out.mono ?_
      rintro e w1 ⟨rfl, h1, h2, h3⟩
      have HW1 := Lib.hid h1
      have HB1 := Lib.hid (HB.out.trans h2)
      have HK1 := Lib.hid (HK.out.trans h3)
      clear h1 h2 h3
      go_wp2_with fail
      go_roundw
      case rel => exact ⟨i + 1, hlt, rfl, by have := HW1.out; rw [List.append_assoc] at this; exact this, HB1.out, HK1.out⟩
      case measure => simp only [Lib.intOf]; omega
    · have q1 : decide ((i : Int) < (n : Int)) = false := decide_eq_false (by omega)
      have q1n : decide (i < n) = false := decide_eq_false hlt
      obtain rfl : i = n := by omega
      have HW1 := Lib.hid hwr
      clear hwr hbel hkp
      go_wp2_with fail
      go_end0
      exact ⟨rfl, HW1.out, HB.out, HK.out⟩
end Go.Proofs.YtgmnojnalkhepaaGreatDoor

/-
  Package shape: the library's tables; numbers as text.
-/
namespace Go.Proofs.YtgmnojnalkhepaaGreatDoor
open Go.RowKit
set_option linter.unusedVariables false
set_option linter.unusedSimpArgs false
set_option maxRecDepth 100000

theorem gTab : Tryz.prog.globalNamed "internal/strconv.uint64pow10" = some 4 := by kernel_rfl
/-- what the variables hold -/
structure Gs (w : World) : Prop where
  gl : Gl w
  tab : Lib.TabIs Tryz.prog w "internal/strconv.uint64pow10" .u64 Lib.pow10Tab
theorem Gs.below {w w' : World} (h : Gs w) (hb : Below w.heap.size w w') : Gs w' := by
  refine ⟨h.gl.below hb, ?_⟩
  have h2 := h.tab
  unfold Lib.TabIs World.var? at h2 ⊢
  rw [gTab] at h2 ⊢
  simp only [Option.bind_some] at h2 ⊢
  rcases Nat.lt_or_ge 4 w.heap.size with hg | hg
  · rw [hb.block _ hg]
    exact h2
  · rw [Array.getElem?_eq_none hg] at h2
    cases h2
/-- .. where old blocks below a number stand, and the variables lie below it -/
theorem Gs.lt {w : World} (h : Gs w) : 4 < w.heap.size := by
  have h2 := h.tab
  unfold Lib.TabIs World.var? at h2
  rw [gTab] at h2
  simp only [Option.bind_some] at h2
  rcases Nat.lt_or_ge 4 w.heap.size with hg | hg
  · exact hg
  · rw [Array.getElem?_eq_none hg] at h2
    cases h2
theorem itoa_ok (n : Int) (w : World) (hn : I64 n) (hg : Gs w) : Calls Tryz.prog 99 #[.int .i64 n] w fun e w' => e = .returned (.string ⟨(Lib.itoa n).toArray⟩) ∧ Below w.heap.size w w' := by
  refine (Tryz.strconv_Itoa n hn.1 hn.2 w hg.tab).mono ?_
  rintro e w' ⟨rfl, k, os, rfl⟩
  exact ⟨rfl, Lib.below_grow w.heap.size w (Nat.le_refl _) k os⟩
theorem Wr.below {B b : Nat} {l : List UInt8} {w w' : World} (h : Wr B b l w) (hb : Below w.heap.size w w') : Wr B b l w' := by
  have key : ∀ {p : Value}, Lib.BuilderAt 62 5 B b p (Lib.byteCells l) w → Lib.BuilderAt 62 5 B b p (Lib.byteCells l) w' := by
    rintro p ⟨h1, v, h2, h3, h4⟩
    have hlt := (Array.getElem?_eq_some_iff.1 h2).1
    refine ⟨h1, v, (hb.block b hlt).trans h2, ⟨h3.1, ?_⟩, h4⟩
    rcases h3.2 with h5 | ⟨g, cap, cur, hv, hg1, hg2, r⟩
    · exact .inl h5
    · exact .inr ⟨g, cap, cur, hv, hg1, (hb.block g (Array.getElem?_eq_some_iff.1 hg2).1).trans hg2, r⟩
  exact h.imp key key
theorem Wr.lt {B b : Nat} {l : List UInt8} {w : World} (h : Wr B b l w) : b < w.heap.size := by
  rcases h with ⟨_, v, h2, _⟩ | ⟨_, v, h2, _⟩ <;> exact (Array.getElem?_eq_some_iff.1 h2).1
theorem kept_below {e : TypeId} {ob : Option Nat} {w w' : World} (h : Below w.heap.size w w') : Lib.OthersKept e ob w w' := fun k o hk _ _ => (h.block k (Array.getElem?_eq_some_iff.1 hk).1).trans hk
theorem StrRow.new (w : World) (cs : Array Value) (n : Nat) (f : Nat → ByteArray) (h : ∀ i, i < n → cs[i]? = some (.string (f i))) : StrRow (w.alloc (.cells cs 9)) w.heap.size n f := ⟨cs, 9, heap_alloc_new w _, by decide, h⟩
end Go.Proofs.YtgmnojnalkhepaaGreatDoor

/-
  Package shape's writer: 'span'.
-/
namespace Go.Proofs.YtgmnojnalkhepaaGreatDoor
open Go.RowKit
set_option linter.unusedVariables false
set_option linter.unusedSimpArgs false
set_option maxRecDepth 100000

def bs (l : List UInt8) : ByteArray := ⟨l.toArray⟩
theorem bs_list (l : List UInt8) : (bs l).data.toList = l := by simp [bs]
def minT : List UInt8 := [77, 73, 78]
def maxT : List UInt8 := [77, 65, 88]
def dotT : List UInt8 := [46, 46]
/-- a number, or two and what is between them -/
def spanT (lo hi : Int) (low high : Bool) : List UInt8 :=
  if low = false ∧ high = false ∧ lo = hi then Lib.itoa lo
  else (if low then minT else Lib.itoa lo) ++ (dotT ++ (if high then maxT else Lib.itoa hi))
theorem itoa_len {n : Int} (h : I64 n) : (Lib.itoa n).length ≤ 21 := Lib.itoa_length_le n h.1 h.2
/-- a writing call: it adds these octets -/
def Adds (w0 w : World) (b : Nat) (l t : List UInt8) (e : Ending) (w' : World) : Prop :=
  e = .returned (.tuple #[]) ∧ Wr w0.heap.size b (l ++ t) w' ∧ Below w0.heap.size w w' ∧ Lib.OthersKept 5 (some b) w w'
theorem put1_ok (w0 : World) (b : Nat) (l t : List UInt8) (w : World) (cap : Nat) (hw : Wr w0.heap.size b l w) (hB : w0.heap.size ≤ w.heap.size) (hlen : l.length + t.length ≤ 140737488355328) :
    Calls Tryz.prog 36 #[.pointer (some ⟨b, 0, none⟩), .slice (some ⟨w.heap.size, 0, none⟩) 1 cap] (w.alloc (.cells #[.string (bs t)] 9)) fun e w' => Adds w0 w b l t e w' := by
  have hb : Below w.heap.size w (w.alloc (.cells #[.string (bs t)] 9)) := (Below.refl _ _).alloc (Nat.le_refl _) _
  have hc : catN (fun _ => bs t) 1 = t := by simp only [catN, List.nil_append, bs_list]
  refine (put_ok w0.heap.size b l _ w.heap.size 1 cap (fun _ => bs t) (hw.below hb) (Nat.le_trans hB hb.size) (StrRow.new w _ 1 _ (fun i hi => by
    match i, hi with
    | 0, _ => rfl)) (by have := hw.lt; omega) (by omega) (by rw [hc]; exact hlen)).mono ?_
  rintro e w' ⟨rfl, h1, h2, h3⟩
  rw [hc] at h1
  exact ⟨rfl, h1, (hb.mono hB).trans h2, (kept_below hb).trans h3⟩
theorem put3_ok (w0 : World) (b : Nat) (l t1 t2 t3 : List UInt8) (w : World) (cap : Nat) (hw : Wr w0.heap.size b l w) (hB : w0.heap.size ≤ w.heap.size) (hlen : l.length + (t1 ++ (t2 ++ t3)).length ≤ 140737488355328) :
    Calls Tryz.prog 36 #[.pointer (some ⟨b, 0, none⟩), .slice (some ⟨w.heap.size, 0, none⟩) 3 cap] (w.alloc (.cells #[.string (bs t1), .string (bs t2), .string (bs t3)] 9)) fun e w' => Adds w0 w b l (t1 ++ (t2 ++ t3)) e w' := by
  have hb : Below w.heap.size w (w.alloc (.cells #[.string (bs t1), .string (bs t2), .string (bs t3)] 9)) := (Below.refl _ _).alloc (Nat.le_refl _) _
  have hc : catN (fun i => bs ([t1, t2, t3].getD i [])) 3 = t1 ++ (t2 ++ t3) := by simp [catN, bs_list]
  refine (put_ok w0.heap.size b l _ w.heap.size 3 cap (fun i => bs ([t1, t2, t3].getD i [])) (hw.below hb) (Nat.le_trans hB hb.size) (StrRow.new w _ 3 _ (fun i hi => by
    match i, hi with
    | 0, _ => rfl
    | 1, _ => rfl
    | 2, _ => rfl)) (by have := hw.lt; omega) (by omega) (by rw [hc]; exact hlen)).mono ?_
  rintro e w' ⟨rfl, h1, h2, h3⟩
  rw [hc] at h1
  exact ⟨rfl, h1, (hb.mono hB).trans h2, (kept_below hb).trans h3⟩
theorem put2_ok (w0 : World) (b : Nat) (l t1 t2 : List UInt8) (w : World) (cap : Nat) (hw : Wr w0.heap.size b l w) (hB : w0.heap.size ≤ w.heap.size) (hlen : l.length + (t1 ++ t2).length ≤ 140737488355328) :
    Calls Tryz.prog 36 #[.pointer (some ⟨b, 0, none⟩), .slice (some ⟨w.heap.size, 0, none⟩) 2 cap] (w.alloc (.cells #[.string (bs t1), .string (bs t2)] 9)) fun e w' => Adds w0 w b l (t1 ++ t2) e w' := by
  have hb : Below w.heap.size w (w.alloc (.cells #[.string (bs t1), .string (bs t2)] 9)) := (Below.refl _ _).alloc (Nat.le_refl _) _
  have hc : catN (fun i => bs ([t1, t2].getD i [])) 2 = t1 ++ t2 := by simp [catN, bs_list]
  refine (put_ok w0.heap.size b l _ w.heap.size 2 cap (fun i => bs ([t1, t2].getD i [])) (hw.below hb) (Nat.le_trans hB hb.size) (StrRow.new w _ 2 _ (fun i hi => by
    match i, hi with
    | 0, _ => rfl
    | 1, _ => rfl)) (by have := hw.lt; omega) (by omega) (by rw [hc]; exact hlen)).mono ?_
  rintro e w' ⟨rfl, h1, h2, h3⟩
  rw [hc] at h1
  exact ⟨rfl, h1, (hb.mono hB).trans h2, (kept_below hb).trans h3⟩
set_option maxHeartbeats 8000000 in
theorem span_ok (w0 : World) (hg : Gs w0) (op lo hi : Int) (low high : Bool) (ca : Option Addr) (cn cc : Nat) (hlo : I64 lo) (hhi : I64 hi) (b : Nat) (l : List UInt8) (w : World) (h0 : Below w0.heap.size w0 w) (hw : Wr w0.heap.size b l w) (hlen : l.length + 100 ≤ 140737488355328) :
    Calls Tryz.prog 95 #[.pointer (some ⟨b, 0, none⟩), .agg #[.int .i64 op, .int .i64 lo, .int .i64 hi, .bool low, .bool high, .slice ca cn cc]] w fun e w' => Adds w0 w b l (spanT lo hi low high) e w' := by
  have hb1 : Below w.heap.size w (w.alloc (.cells #[.int .i64 op, .int .i64 lo, .int .i64 hi, .bool low, .bool high, .slice ca cn cc] 34)) := (Below.refl _ _).alloc (Nat.le_refl _) _
  have HB1 := Lib.hid hb1
  have HX := Lib.hid (Bx.new w #[.int .i64 op, .int .i64 lo, .int .i64 hi, .bool low, .bool high, .slice ca cn cc] 34)
  have HW := Lib.hid (hw.below hb1)
  have HGS := Lib.hid (hg.below (h0.trans (hb1.mono h0.size)))
  have HLO := Lib.hid hlo
  have HHI := Lib.hid hhi
  have hll := itoa_len hlo
  have hlh := itoa_len hhi
  have HSZ := Lib.hid (Nat.le_trans h0.size hb1.size)
  have HSZ0 := Lib.hid h0.size
  have HGO : Hid (∀ e w' W T, spanT lo hi low high = T → Below w.heap.size w W → Adds w0 W b l T e w' → Adds w0 w b l (spanT lo hi low high) e w') := Lib.hid (fun e w' W T ht hb h => by
    rw [ht]
    exact ⟨h.1, h.2.1, (hb.mono h0.size).trans h.2.2.1, (kept_below hb).trans h.2.2.2⟩)
  generalize hT : spanT lo hi low high = T at *
  have HT := Lib.hid hT
  clear hb1 hw hg h0 hlo hhi hT
  by_cases h1 : low = false ∧ high = false ∧ lo = hi
  · obtain ⟨rfl, rfl, rfl⟩ := h1
    have q1 : (lo == lo) = true := by simp
    have HE := Lib.hid (show Lib.itoa lo = T by rw [← HT.out]; simp [spanT])
    go_enter Tryz.func95, Tryz.ntmps95
    go_wp2_with fail
    refine (itoa_ok lo _ HLO.out HGS.out).mono ?_
    rintro e w1 ⟨rfl, hb⟩
    have HB2 := Lib.hid (HB1.out.trans (hb.mono HB1.out.size))
    have HW2 := Lib.hid (HW.out.below hb)
    clear hb
    go_wp2_with fail
    refine (put1_ok w0 b l (Lib.itoa lo) w1 _ HW2.out (Nat.le_trans HSZ0.out HB2.out.size) (by omega)).mono ?_
    rintro e w2 ha
    have HA := Lib.hid (HGO.out e w2 w1 _ HE.out.symm HB2.out ha)
    obtain ⟨rfl, _⟩ := ha
    go_wp2_with fail
    go_end0
    exact HA.out
  · have hne : low = false → high = false → (lo == hi) = false := fun e1 e2 => by simpa using fun e3 => h1 ⟨e1, e2, e3⟩
    have HE := Lib.hid (show (if low then minT else Lib.itoa lo) ++ (dotT ++ (if high then maxT else Lib.itoa hi)) = T by rw [← HT.out]; unfold spanT; rw [if_neg h1])
    have HCL := Lib.hid (fun (W : World) (hW : Gs W) (d : Nat) (os : Array Obj) => Calls.regrown_of (itoa_ok lo (Go.Sort.grow (redrawn W d) os) HLO.out (hW.below (below_regrown W d os))))
    have HCH := Lib.hid (fun (W : World) (hW : Gs W) (d : Nat) (os : Array Obj) => Calls.regrown_of (itoa_ok hi (Go.Sort.grow (redrawn W d) os) HHI.out (hW.below (below_regrown W d os))))
    clear h1
    cases low <;> cases high
    · have q1 := hne
      simp at q1
      clear hne
      go_enter Tryz.func95, Tryz.ntmps95
      go_wp2_with fail
      generalize w.alloc (.cells #[.int .i64 op, .int .i64 lo, .int .i64 hi, .bool false, .bool false, .slice ca cn cc] 34) = W at *
      have CL := Lib.hid (HCL.out _ HGS.out)
      have CH := Lib.hid (HCH.out _ HGS.out)
      have c1 := fun d os => cell_regrown (HX.out.cell 1 rfl) d os
      have c2 := fun d os => cell_regrown (HX.out.cell 2 rfl) d os
      have c3 := fun d os => cell_regrown (HX.out.cell 3 rfl) d os
      have c4 := fun d os => cell_regrown (HX.out.cell 4 rfl) d os
      clear HCL HCH HLO HHI HT
      refine wp_region_quiet_below (by kernel_rfl) (by kernel_rfl) ?_
      quiet_step (fail)
      quiet_step (fail)
      quiet_step (exact CL.out _ _)
      quiet_step (fail)
      quiet_step (fail)
      quiet_step (exact CH.out _ _)
      quiet_step (fail)
      quiet_step (fail)
      refine wpQuiet_nil ?_
      intro _ hw'
      obtain ⟨⟨dq, osq⟩, hw''⟩ := hw'
      subst hw''
      have hb2 := below_regrown W dq osq
      have d3 := c3 dq osq
      have d4 := c4 dq osq
      clear c1 c2 c3 c4 CL CH
      generalize Go.Sort.grow (redrawn W dq) osq = W2 at *
      have HB2 := Lib.hid (HB1.out.trans (hb2.mono HB1.out.size))
      have HW2 := Lib.hid (HW.out.below hb2)
      clear hb2
      go_wp2_with fail
      refine (put3_ok w0 b l (Lib.itoa lo) dotT (Lib.itoa hi) _ _ HW2.out (Nat.le_trans HSZ0.out HB2.out.size) (by simp [dotT, minT, maxT]; omega)).mono ?_
      rintro e w2 ha
      have HA := Lib.hid (HGO.out e w2 _ _ HE.out.symm HB2.out ha)
      obtain ⟨rfl, _⟩ := ha
      go_wp2_with fail
      go_end0
      exact HA.out
    · have q1 := hne
      simp at q1
      clear hne
      go_enter Tryz.func95, Tryz.ntmps95
      go_wp2_with fail
      generalize w.alloc (.cells #[.int .i64 op, .int .i64 lo, .int .i64 hi, .bool false, .bool true, .slice ca cn cc] 34) = W at *
      have CL := Lib.hid (HCL.out _ HGS.out)
      have CH := Lib.hid (HCH.out _ HGS.out)
      have c1 := fun d os => cell_regrown (HX.out.cell 1 rfl) d os
      have c2 := fun d os => cell_regrown (HX.out.cell 2 rfl) d os
      have c3 := fun d os => cell_regrown (HX.out.cell 3 rfl) d os
      have c4 := fun d os => cell_regrown (HX.out.cell 4 rfl) d os
      clear HCL HCH HLO HHI HT
      refine wp_region_quiet_below (by kernel_rfl) (by kernel_rfl) ?_
      quiet_step (fail)
      quiet_step (fail)
      quiet_step (exact CL.out _ _)
      quiet_step (fail)
      quiet_step (fail)
      quiet_step (exact CH.out _ _)
      quiet_step (fail)
      quiet_step (fail)
      refine wpQuiet_nil ?_
      intro _ hw'
      obtain ⟨⟨dq, osq⟩, hw''⟩ := hw'
      subst hw''
      have hb2 := below_regrown W dq osq
      have d3 := c3 dq osq
      have d4 := c4 dq osq
      clear c1 c2 c3 c4 CL CH
      generalize Go.Sort.grow (redrawn W dq) osq = W2 at *
      have HB2 := Lib.hid (HB1.out.trans (hb2.mono HB1.out.size))
      have HW2 := Lib.hid (HW.out.below hb2)
      clear hb2
      go_wp2_with fail
      refine (put3_ok w0 b l (Lib.itoa lo) dotT maxT _ _ HW2.out (Nat.le_trans HSZ0.out HB2.out.size) (by simp [dotT, minT, maxT]; omega)).mono ?_
      rintro e w2 ha
      have HA := Lib.hid (HGO.out e w2 _ _ HE.out.symm HB2.out ha)
      obtain ⟨rfl, _⟩ := ha
      go_wp2_with fail
      go_end0
      exact HA.out
    · have q1 := hne
      simp at q1
      clear hne
      go_enter Tryz.func95, Tryz.ntmps95
      go_wp2_with fail
      generalize w.alloc (.cells #[.int .i64 op, .int .i64 lo, .int .i64 hi, .bool true, .bool false, .slice ca cn cc] 34) = W at *
      have CL := Lib.hid (HCL.out _ HGS.out)
      have CH := Lib.hid (HCH.out _ HGS.out)
      have c1 := fun d os => cell_regrown (HX.out.cell 1 rfl) d os
      have c2 := fun d os => cell_regrown (HX.out.cell 2 rfl) d os
      have c3 := fun d os => cell_regrown (HX.out.cell 3 rfl) d os
      have c4 := fun d os => cell_regrown (HX.out.cell 4 rfl) d os
      clear HCL HCH HLO HHI HT
      refine wp_region_quiet_below (by kernel_rfl) (by kernel_rfl) ?_
      quiet_step (fail)
      quiet_step (fail)
      quiet_step (exact CL.out _ _)
      quiet_step (fail)
      quiet_step (fail)
      quiet_step (exact CH.out _ _)
      quiet_step (fail)
      quiet_step (fail)
      refine wpQuiet_nil ?_
      intro _ hw'
      obtain ⟨⟨dq, osq⟩, hw''⟩ := hw'
      subst hw''
      have hb2 := below_regrown W dq osq
      have d3 := c3 dq osq
      have d4 := c4 dq osq
      clear c1 c2 c3 c4 CL CH
      generalize Go.Sort.grow (redrawn W dq) osq = W2 at *
      have HB2 := Lib.hid (HB1.out.trans (hb2.mono HB1.out.size))
      have HW2 := Lib.hid (HW.out.below hb2)
      clear hb2
      go_wp2_with fail
      refine (put3_ok w0 b l minT dotT (Lib.itoa hi) _ _ HW2.out (Nat.le_trans HSZ0.out HB2.out.size) (by simp [dotT, minT, maxT]; omega)).mono ?_
      rintro e w2 ha
      have HA := Lib.hid (HGO.out e w2 _ _ HE.out.symm HB2.out ha)
      obtain ⟨rfl, _⟩ := ha
      go_wp2_with fail
      go_end0
      exact HA.out
    · have q1 := hne
      simp at q1
      clear hne
      go_enter Tryz.func95, Tryz.ntmps95
      go_wp2_with fail
      generalize w.alloc (.cells #[.int .i64 op, .int .i64 lo, .int .i64 hi, .bool true, .bool true, .slice ca cn cc] 34) = W at *
      have CL := Lib.hid (HCL.out _ HGS.out)
      have CH := Lib.hid (HCH.out _ HGS.out)
      have c1 := fun d os => cell_regrown (HX.out.cell 1 rfl) d os
      have c2 := fun d os => cell_regrown (HX.out.cell 2 rfl) d os
      have c3 := fun d os => cell_regrown (HX.out.cell 3 rfl) d os
      have c4 := fun d os => cell_regrown (HX.out.cell 4 rfl) d os
      clear HCL HCH HLO HHI HT
      refine wp_region_quiet_below (by kernel_rfl) (by kernel_rfl) ?_
      quiet_step (fail)
      quiet_step (fail)
      quiet_step (exact CL.out _ _)
      quiet_step (fail)
      quiet_step (fail)
      quiet_step (exact CH.out _ _)
      quiet_step (fail)
      quiet_step (fail)
      refine wpQuiet_nil ?_
      intro _ hw'
      obtain ⟨⟨dq, osq⟩, hw''⟩ := hw'
      subst hw''
      have hb2 := below_regrown W dq osq
      have d3 := c3 dq osq
      have d4 := c4 dq osq
      clear c1 c2 c3 c4 CL CH
      generalize Go.Sort.grow (redrawn W dq) osq = W2 at *
      have HB2 := Lib.hid (HB1.out.trans (hb2.mono HB1.out.size))
      have HW2 := Lib.hid (HW.out.below hb2)
      clear hb2
      go_wp2_with fail
      refine (put3_ok w0 b l minT dotT maxT _ _ HW2.out (Nat.le_trans HSZ0.out HB2.out.size) (by simp [dotT, minT, maxT]; omega)).mono ?_
      rintro e w2 ha
      have HA := Lib.hid (HGO.out e w2 _ _ HE.out.symm HB2.out ha)
      obtain ⟨rfl, _⟩ := ha
      go_wp2_with fail
      go_end0
      exact HA.out
end Go.Proofs.YtgmnojnalkhepaaGreatDoor

/-
  Package shape's writer: 'between', 'side', 'con'.
-/
namespace Go.Proofs.YtgmnojnalkhepaaGreatDoor
open Go.RowKit
set_option linter.unusedVariables false
set_option linter.unusedSimpArgs false
set_option maxRecDepth 100000

def catL (f : Nat → List UInt8) : Nat → List UInt8
  | 0 => []
  | n + 1 => catL f n ++ f n
theorem catL_mono {f : Nat → List UInt8} : ∀ {n i : Nat}, i ≤ n → (catL f i).length ≤ (catL f n).length
  | 0, i, h => by obtain rfl : i = 0 := by omega
                  exact Nat.le_refl _
  | n + 1, i, h => by
    rcases Nat.lt_or_ge i (n + 1) with h1 | h1
    · have := catL_mono (f := f) (n := n) (i := i) (by omega)
      simp only [catL, List.length_append]
      omega
    · obtain rfl : i = n + 1 := by omega
      exact Nat.le_refl _
def betT (op : Int) : List UInt8 := if op = 2 then [32, 124, 32] else if op = 3 then [32, 94, 32] else [32, 69, 88, 67, 69, 80, 84, 32]
/-- a constraint's text -/
def CT.txt : CT → List UInt8
  | .nil => []
  | .mk op lo hi low high _ n _ ch => if op = 1 then spanT lo hi low high else catL (fun i => (if 0 < i then betT op else []) ++ (if (ch i).op = 1 then (ch i).txt else 40 :: ((ch i).txt ++ [41]))) n
def CT.side (c : CT) : List UInt8 := if c.op = 1 then c.txt else 40 :: (c.txt ++ [41])
theorem between_ok (op : Int) (w : World) : Calls Tryz.prog 96 #[.int .i64 op] w fun e w' => e = .returned (.string (bs (betT op))) ∧ w' = w := by
  by_cases h2 : op = 2
  · subst h2
    go_enter Tryz.func96, Tryz.ntmps96
    go_wp2_with fail
    go_ret
    exact ⟨rfl, rfl⟩
  by_cases h3 : op = 3
  · subst h3
    go_enter Tryz.func96, Tryz.ntmps96
    go_wp2_with fail
    go_ret
    exact ⟨rfl, rfl⟩
  have q2 : (op == 2) = false := by simpa using h2
  have q3 : (op == 3) = false := by simpa using h3
  have HE := Lib.hid (show betT op = [32, 69, 88, 67, 69, 80, 84, 32] by unfold betT; rw [if_neg h2, if_neg h3])
  clear h2 h3
  go_enter Tryz.func96, Tryz.ntmps96
  go_wp2_with fail
  go_ret
  refine ⟨?_, rfl⟩
  rw [HE.out]
  rfl
theorem put1_at (w0 : World) (b : Nat) (l t : List UInt8) (w : World) (g cap : Nat) (hgw : w.heap.size = g) (hw : Wr w0.heap.size b l w) (hB : w0.heap.size ≤ w.heap.size) (hlen : l.length + t.length ≤ 140737488355328) :
    Calls Tryz.prog 36 #[.pointer (some ⟨b, 0, none⟩), .slice (some ⟨g, 0, none⟩) 1 cap] (w.alloc (.cells #[.string (bs t)] 9)) fun e w' => Adds w0 w b l t e w' := by
  subst hgw
  exact put1_ok w0 b l t w cap hw hB hlen
theorem Bx.kept {w w' : World} {g b : Nat} {cs : Array Value} {t : TypeId} (h : Bx w g cs t) (hk : Lib.OthersKept 5 (some b) w w') (hb : g ≠ b) (ht : t ≠ 5) : Bx w' g cs t :=
  hk g _ h (fun e => hb (Option.some.inj e)) (fun c fz e => ht (by injection e))
/-- what a writing function does with one value -/
def Writes (w0 : World) (f : FuncId) (v : Value) (T : List UInt8) : Prop :=
  ∀ (b : Nat) (l : List UInt8) (w : World), Below w0.heap.size w0 w → Wr w0.heap.size b l w → l.length + T.length + 100 ≤ 140737488355328 → Calls Tryz.prog f #[.pointer (some ⟨b, 0, none⟩), v] w fun e w' => Adds w0 w b l T e w'
theorem Adds.wr {w0 w w' : World} {b : Nat} {l t : List UInt8} {e : Ending} (h : Adds w0 w b l t e w') : Wr w0.heap.size b (l ++ t) w' := h.2.1
theorem Adds.step {w0 w w1 w2 : World} {b : Nat} {l t1 t2 : List UInt8} {e1 e2 : Ending} (h1 : Adds w0 w b l t1 e1 w1) (h2 : Adds w0 w1 b (l ++ t1) t2 e2 w2) : Adds w0 w b l (t1 ++ t2) e2 w2 :=
  ⟨h2.1, by rw [← List.append_assoc]; exact h2.2.1, h1.2.2.1.trans h2.2.2.1, h1.2.2.2.trans h2.2.2.2⟩
theorem Adds.from {w0 w w1 w2 : World} {b : Nat} {l t : List UInt8} {e : Ending} (hb : Below w.heap.size w w1) (hs : w0.heap.size ≤ w.heap.size) (h : Adds w0 w1 b l t e w2) : Adds w0 w b l t e w2 :=
  ⟨h.1, h.2.1, (hb.mono hs).trans h.2.2.1, (kept_below hb).trans h.2.2.2⟩
set_option maxHeartbeats 2000000 in
theorem side_of (w0 : World) (hg : Gs w0) (c : CT) (hc : CIn w0.heap.size w0 c) (hcon : Writes w0 76 c.v c.txt) : Writes w0 97 c.v c.side := by
  intro b l w h0 hw hlen
  obtain ⟨op, lo, hi, low, high, a, n, cap, ch, rfl⟩ := hc.open
  obtain ⟨hI, _, _⟩ := hc
  have hb1 : Below w.heap.size w (w.alloc (.cells #[.int .i64 op, .int .i64 lo, .int .i64 hi, .bool low, .bool high, .slice a n cap] 34)) := (Below.refl _ _).alloc (Nat.le_refl _) _
  have HB1 := Lib.hid hb1
  have HX := Lib.hid (Bx.new w #[.int .i64 op, .int .i64 lo, .int .i64 hi, .bool low, .bool high, .slice a n cap] 34)
  have HW := Lib.hid (hw.below hb1)
  have H0 := Lib.hid (h0.trans (hb1.mono h0.size))
  have HSZ := Lib.hid h0.size
  have hgb : w.heap.size ≠ b := by have := hw.lt; omega
  by_cases h1 : op = 1
  · subst h1
    have hT : (CT.mk 1 lo hi low high a n cap ch).side = spanT lo hi low high := rfl
    rw [hT] at hlen ⊢
    have HL := Lib.hid hlen
    have HI := Lib.hid hI
    have HG := Lib.hid hg
    clear hlen hI hg hw h0 hb1 hcon hT
    show Calls _ _ #[_, .agg #[.int .i64 1, .int .i64 lo, .int .i64 hi, .bool low, .bool high, .slice a n cap]] w _
    go_enter Tryz.func97, Tryz.ntmps97
    go_wp2_with fail
    refine (span_ok w0 HG.out 1 lo hi low high a n cap HI.out.2.1 HI.out.2.2 b l _ H0.out HW.out (by have := HL.out; omega)).mono ?_
    rintro e w1 ha
    have HA := Lib.hid (ha.from HB1.out HSZ.out)
    obtain ⟨rfl, _⟩ := ha
    go_wp2_with fail
    go_end0
    exact HA.out
  · have q1 : (op == 1) = false := by simpa using h1
    have hT : (CT.mk op lo hi low high a n cap ch).side = [40] ++ ((CT.mk op lo hi low high a n cap ch).txt ++ [41]) := by
      show (if op = 1 then _ else _) = _
      rw [if_neg h1]
      rfl
    rw [hT] at hlen ⊢
    generalize (CT.mk op lo hi low high a n cap ch).txt = T at *
    have HC := Lib.hid hcon
    have HL := Lib.hid hlen
    simp only [CT.v, CT.cells] at HC
    have HP1 := Lib.hid (put1_at w0 b l [40] (w.alloc (.cells #[.int .i64 op, .int .i64 lo, .int .i64 hi, .bool low, .bool high, .slice a n cap] 34)) (w.heap.size + 1) 1 (by simp) (hw.below hb1) (Nat.le_trans h0.size hb1.size) (by simp at hlen ⊢; omega))
    clear hlen hI hg hw h0 hb1 hcon hT h1
    show Calls _ _ #[_, .agg #[.int .i64 op, .int .i64 lo, .int .i64 hi, .bool low, .bool high, .slice a n cap]] w _
    go_enter Tryz.func97, Tryz.ntmps97
    go_wp2_with fail
    generalize w.alloc (.cells #[.int .i64 op, .int .i64 lo, .int .i64 hi, .bool low, .bool high, .slice a n cap] 34) = W at *
    refine HP1.out.mono ?_
    rintro e w1 ha
    have HA1 := Lib.hid ha
    have HX1 := Lib.hid (HX.out.kept ha.2.2.2 hgb (by decide))
    have HBB := Lib.hid (H0.out.trans ha.2.2.1)
    have hx := HX1.out
    have c0 := hx.cell 0 rfl
    have c1 := hx.cell 1 rfl
    have c2 := hx.cell 2 rfl
    have c3 := hx.cell 3 rfl
    have c4 := hx.cell 4 rfl
    have c5 := hx.cell 5 rfl
    obtain ⟨rfl, _⟩ := ha
    clear hx HP1
    go_wp2_with fail
    refine (HC.out b _ w1 HBB.out HA1.out.wr (by have := HL.out; simp at this ⊢; omega)).mono ?_
    rintro e w2 ha
    have HA2 := Lib.hid (HA1.out.step ha)
    have HBB2 := Lib.hid (HBB.out.trans ha.2.2.1)
    obtain ⟨rfl, _⟩ := ha
    go_wp2_with fail
    refine (put1_at w0 b _ [41] w2 _ _ rfl HA2.out.wr HBB2.out.size (by have := HL.out; simp at this ⊢; omega)).mono ?_
    rintro e w3 ha
    have HA3 := Lib.hid ((HA2.out.step ha).from HB1.out HSZ.out)
    obtain ⟨rfl, _⟩ := ha
    go_wp2_with fail
    go_end0
    have h3 := HA3.out
    rw [List.append_assoc] at h3
    exact h3
def RelCon (w0 w : World) (b g : Nat) (cs : Array Value) (l : List UInt8) (f : Nat → List UInt8) (n : Nat) (iv : Value) (wr : World) : Prop :=
  ∃ i : Nat, i ≤ n ∧ iv = .int .i64 (i : Nat) ∧ Bx wr g cs 34 ∧ Wr w0.heap.size b (l ++ catL f i) wr ∧ Below w0.heap.size w wr ∧ Lib.OthersKept 5 (some b) w wr
set_option maxHeartbeats 2000000 in
theorem wcon_ok (w0 : World) (hg : Gs w0) : ∀ (c : CT), CIn w0.heap.size w0 c → Writes w0 76 c.v c.txt
  | .nil, h => h.elim
  | .mk op lo hi low high a n cap ch, ⟨hI, hrow, hch⟩ => by
    intro b l w h0 hw hlen
    have HS := Lib.hid (fun i (hi : i < n) => side_of w0 hg (ch i) (hch i hi) (wcon_ok w0 hg (ch i) (hch i hi)))
    have hb1 : Below w.heap.size w (w.alloc (.cells #[.int .i64 op, .int .i64 lo, .int .i64 hi, .bool low, .bool high, .slice a n cap] 34)) := (Below.refl _ _).alloc (Nat.le_refl _) _
    have HB1 := Lib.hid hb1
    have HX := Lib.hid (Bx.new w #[.int .i64 op, .int .i64 lo, .int .i64 hi, .bool low, .bool high, .slice a n cap] 34)
    have HW := Lib.hid (hw.below hb1)
    have H0 := Lib.hid (h0.trans (hb1.mono h0.size))
    have HSZ := Lib.hid h0.size
    have hgb : w.heap.size ≠ b := by have := hw.lt; omega
    have HROW := Lib.hid hrow
    have HCH := Lib.hid hch
    have HI := Lib.hid hI
    have HG := Lib.hid hg
    have hn : n ≤ 9223372036854775807 := by have := hrow.1; have := hrow.2.1; omega
    by_cases h1 : op = 1
    · subst h1
      have hT : (CT.mk 1 lo hi low high a n cap ch).txt = spanT lo hi low high := by rw [CT.txt, if_pos rfl]
      rw [hT] at hlen ⊢
      have HL := Lib.hid hlen
      clear hlen hI hg hw h0 hb1 hrow hch hT HS
      show Calls _ _ #[_, .agg #[.int .i64 1, .int .i64 lo, .int .i64 hi, .bool low, .bool high, .slice a n cap]] w _
      go_enter Tryz.func76, Tryz.ntmps76
      go_wp2_with fail
      refine (span_ok w0 HG.out 1 lo hi low high a n cap HI.out.2.1 HI.out.2.2 b l _ H0.out HW.out (by have := HL.out; omega)).mono ?_
      rintro e w1 ha
      have HA := Lib.hid (ha.from HB1.out HSZ.out)
      obtain ⟨rfl, _⟩ := ha
      go_wp2_with fail
      go_end0
      exact HA.out
    · have q1 : (op == 1) = false := by simpa using h1
      obtain ⟨f, hf⟩ : ∃ f, (fun i => (if 0 < i then betT op else []) ++ (if (ch i).op = 1 then (ch i).txt else 40 :: ((ch i).txt ++ [41]))) = f := ⟨_, rfl⟩
      have hT : (CT.mk op lo hi low high a n cap ch).txt = catL f n := by rw [CT.txt, if_neg h1, hf]
      rw [hT] at hlen ⊢
      have HF := Lib.hid (show ∀ i, f i = (if 0 < i then betT op else []) ++ (ch i).side from fun i => by rw [← hf]; rfl)
      have HL := Lib.hid hlen
      clear hlen hI hg hw h0 hb1 hrow hch hT hf h1
      show Calls _ _ #[_, .agg #[.int .i64 op, .int .i64 lo, .int .i64 hi, .bool low, .bool high, .slice a n cap]] w _
      go_enter Tryz.func76, Tryz.ntmps76
      go_wp2_with fail
      generalize w.alloc (.cells #[.int .i64 op, .int .i64 lo, .int .i64 hi, .bool low, .bool high, .slice a n cap] 34) = W at *
      obtain ⟨g, hgg⟩ : ∃ g, w.heap.size = g := ⟨_, rfl⟩
      have HGG := Lib.hid hgg
      rw [hgg] at HX hgb ⊢
      clear hgg
      go_loopw [15] (fun iv wr => RelCon w0 W b g #[.int .i64 op, .int .i64 lo, .int .i64 hi, .bool low, .bool high, .slice a n cap] l f n iv wr) (fun iv _ => n - (Lib.intOf iv).toNat)
      case atStart => exact ⟨0, Nat.zero_le _, rfl, HX.out, by simp only [catL, List.append_nil]; exact HW.out, Below.refl _ _, Lib.OthersKept.refl _ _ _⟩
      case round =>
        obtain ⟨i, hi0, rfl, hbx, hwr, hbel, hkp⟩ := hrel
        have HXR := Lib.hid hbx
        have HWR := Lib.hid hwr
        have HB := Lib.hid hbel
        have HK := Lib.hid hkp
        have HBB := Lib.hid (H0.out.trans hbel)
        have hsz := (H0.out.trans hbel).size
        have hbl := hwr.lt
        by_cases hlt : i < n
        · have q2 : decide ((i : Int) < (n : Int)) = true := decide_eq_true (by omega)
          have q2n : decide (i < n) = true := decide_eq_true hlt
          obtain ⟨gx, ox, op', lo', hi', low', high', a', n', cap', ch', hchi, hix, hgx, hrd⟩ := cRow_read HROW.out hlt (HCH.out i hlt)
          obtain ⟨k0, k1, k2, k3, k4, k5⟩ := hrd wr (HBB.out.block gx hgx)
          have HC := Lib.hid (HS.out i hlt)
          have q3 : IntKind.i64.wrap ((i : Int) + 1) = ((i + 1 : Nat) : Int) := wrap_succ hlt hn
          have hl2 : (l ++ catL f i).length + ((if 0 < i then betT op else []) ++ (ch i).side).length + 100 ≤ 140737488355328 := by
            have e1 := catL_mono (f := f) (n := n) (i := i + 1) (by omega)
            have e2 := HL.out
            have e3 := HF.out i
            simp only [catL, List.length_append] at e1 ⊢
            rw [e3, List.length_append] at e1
            omega
          have hfi := HF.out i
          obtain ⟨S, hS⟩ : ∃ S, (ch i).side = S := ⟨_, rfl⟩
          rw [hS] at HC hl2 hfi
          rw [hchi] at HC
          simp only [CT.v, CT.cells] at HC
          have c0 : ∀ o, (wr.alloc o).cell? ⟨g, 0, none⟩ = some (.int .i64 op) := fun o => (hbx.alloc o).cell 0 rfl
          have hba : Below wr.heap.size wr (wr.alloc (.cells #[.int .i64 op', .int .i64 lo', .int .i64 hi', .bool low', .bool high', .slice a' n' cap'] 34)) := (Below.refl _ _).alloc (Nat.le_refl _) _
          have HBA := Lib.hid hba
          have HXC := Lib.hid (Bx.new wr #[.int .i64 op', .int .i64 lo', .int .i64 hi', .bool low', .bool high', .slice a' n' cap'] 34)
          have HXA := Lib.hid (hbx.alloc (.cells #[.int .i64 op', .int .i64 lo', .int .i64 hi', .bool low', .bool high', .slice a' n' cap'] 34))
          have hcb : wr.heap.size ≠ b := by omega
          rcases Nat.eq_zero_or_pos i with h0i | h0i
          · subst h0i
            have hix2 : ∀ w, (Instr.indexAt 32 (.slice a n cap) (.int .i64 0)).run Tryz.prog w = .ok (.pointer (some ⟨gx, ox, none⟩)) w := hix
            have q5 : decide ((0 : Int) < (n : Int)) = true := decide_eq_true (by omega)
            have q5n : decide (0 < n) = true := decide_eq_true hlt
            rw [if_neg (by omega)] at hl2 hfi
            have HFI := Lib.hid hfi
            have HL2 := Lib.hid hl2
            have HWA := Lib.hid (hwr.below hba)
            have HBW := Lib.hid (HBB.out.trans (hba.mono hsz))
            clear hfi hl2 hbx hwr hbel hkp hba hchi hrd hS
            go_wp2_with fail
            refine (HC.out b _ _ HBW.out HWA.out (by have := HL2.out; simp [catL] at this ⊢; omega)).mono ?_
            rintro e w3 ha
            have HA := Lib.hid (ha.from HBA.out hsz)
            have HXE := Lib.hid (HXA.out.kept ha.2.2.2 hgb (by decide))
            obtain ⟨rfl, _⟩ := ha
            go_wp2_with fail
            go_roundw
            case rel => exact ⟨1, hlt, rfl, HXE.out, by have h3 := HA.out.wr; simp only [catL, List.nil_append, List.append_nil] at h3 ⊢; rw [HFI.out]; exact h3, HB.out.trans HA.out.2.2.1, HK.out.trans HA.out.2.2.2⟩
            case measure => simp only [Lib.intOf]; omega
          · rw [if_pos h0i] at hl2 hfi
            have q4 : decide ((0 : Int) < (i : Int)) = true := decide_eq_true (by omega)
            have q4n : decide (0 < i) = true := decide_eq_true h0i
            have HFI := Lib.hid hfi
            have HL2 := Lib.hid hl2
            have HP := Lib.hid (put1_at w0 b _ (betT op) (wr.alloc (.cells #[.int .i64 op', .int .i64 lo', .int .i64 hi', .bool low', .bool high', .slice a' n' cap'] 34)) (wr.heap.size + 1) 1 (by simp) (hwr.below hba) (Nat.le_trans hsz hba.size) (by simp at hl2 ⊢; omega))
            have HBW := Lib.hid (HBB.out.trans (hba.mono hsz))
            clear hfi hl2 hbx hwr hbel hkp hba hchi hrd hS
            go_wp2_with fail
            refine (between_ok op _).mono ?_
            rintro e w1 ⟨rfl, rfl⟩
            go_wp2_with fail
            refine HP.out.mono ?_
            rintro e w2 ha
            have HA2 := Lib.hid ha
            have hxc := HXC.out.kept ha.2.2.2 hcb (by decide)
            have HXG := Lib.hid (HXA.out.kept ha.2.2.2 hgb (by decide))
            have d0 := hxc.cell 0 rfl
            have d1 := hxc.cell 1 rfl
            have d2 := hxc.cell 2 rfl
            have d3 := hxc.cell 3 rfl
            have d4 := hxc.cell 4 rfl
            have d5 := hxc.cell 5 rfl
            obtain ⟨rfl, _⟩ := ha
            clear hxc k0 k1 k2 k3 k4 k5 HP c0
            go_wp2_with fail
            refine (HC.out b _ w2 (HBW.out.trans HA2.out.2.2.1) HA2.out.wr (by have := HL2.out; simp at this ⊢; omega)).mono ?_
            rintro e w3 ha
            have HA := Lib.hid ((HA2.out.step ha).from HBA.out hsz)
            have HXE := Lib.hid (HXG.out.kept ha.2.2.2 hgb (by decide))
            obtain ⟨rfl, _⟩ := ha
            go_wp2_with fail
            go_roundw
            case rel => exact ⟨i + 1, hlt, rfl, HXE.out, by have h3 := HA.out.wr; simp only [catL]; rw [HFI.out, ← List.append_assoc l]; exact h3, HB.out.trans HA.out.2.2.1, HK.out.trans HA.out.2.2.2⟩
            case measure => simp only [Lib.intOf]; omega
        · have q2 : decide ((i : Int) < (n : Int)) = false := decide_eq_false (by omega)
          have q2n : decide (i < n) = false := decide_eq_false hlt
          obtain rfl : i = n := by omega
          clear hbx hwr hbel hkp
          go_wp2_with fail
          go_end0
          exact Adds.from HB1.out HSZ.out ⟨rfl, HWR.out, HB.out, HK.out⟩
end Go.Proofs.YtgmnojnalkhepaaGreatDoor

/-
  Package shape: 'ConText'.
-/
namespace Go.Proofs.YtgmnojnalkhepaaGreatDoor
open Go.RowKit
set_option linter.unusedVariables false
set_option linter.unusedSimpArgs false
set_option maxRecDepth 100000

/-- the text of a constraint, or nothing -/
def CT.text (c : CT) : List UInt8 := if c.op = 0 ∨ c.ok 40 = false then [] else c.txt
theorem Wr.new (w0 w : World) (h : w0.heap.size ≤ w.heap.size) : Wr w0.heap.size w.heap.size [] (w.alloc (.cells #[.pointer none, .slice none 0 0] 62)) :=
  .inl ⟨h, .slice none 0 0, heap_alloc_new w _, World.ownsRow_nil _ _ _ _, by simp [Value.ownBlock]⟩
end Go.Proofs.YtgmnojnalkhepaaGreatDoor
