/-
  A Writer's method Bytes.
-/
import Derived.Test.YtbbbgoigacledaaPut
import Derived.Laws.CopyOwn
import Derived.OwnWalk
namespace Go.Proofs.Ytbbbgoigacledaa
open Go.RowKit
set_option linter.unusedVariables false
set_option linter.unusedSimpArgs false
set_option maxRecDepth 100000

def u8s (l : List Nat) : List Value := l.map fun x : Nat => Value.int .u8 (x : Int)
/-- N octets, those from 64 q on as in B, the others 0 -/
def rowAt (B : List Bool) (N q : Nat) : List Value := (List.range N).map fun i => if 64 * q ≤ i then Value.int .u8 (oct B i) else Value.int .u8 0
theorem rowAt_length (B : List Bool) (N q : Nat) : (rowAt B N q).length = N := by simp [rowAt]
theorem rowAt_get (B : List Bool) (N q i : Nat) (h : i < N) : (rowAt B N q)[i]? = some (if 64 * q ≤ i then Value.int .u8 (oct B i) else Value.int .u8 0) := by simp [rowAt, h]
theorem rowAt_zero (B : List Bool) : rowAt B ((B.length + 7) / 8) 0 = u8s (octs B) := by
  simp [rowAt, u8s, octs]
theorem rowAt_new (B : List Bool) (N q : Nat) (h : N ≤ 64 * q) : rowAt B N q = List.replicate N (Value.int .u8 0) := by
  apply List.ext_getElem?
  intro i
  rcases Nat.lt_or_ge i N with hi | hi
  · rw [rowAt_get _ _ _ _ hi, if_neg (by omega), List.getElem?_replicate, if_pos hi]
  · rw [List.getElem?_eq_none (by rw [rowAt_length]; exact hi), List.getElem?_eq_none (by simpa using hi)]
theorem rowAt_step (B : List Bool) (N q : Nat) (cs : List Value) (hcs : cs = (octCells B q).take (N - 64 * q)) : splice (rowAt B N (q + 1)) (64 * q) cs = rowAt B N q := by
  have hl : cs.length = min (N - 64 * q) 64 := by rw [hcs, List.length_take, octCells_length]
  apply List.ext_getElem?
  intro i
  unfold splice
  rcases Nat.lt_or_ge i N with hi | hi
  · rw [rowAt_get _ _ _ _ hi]
    rcases Nat.lt_or_ge i (64 * q) with h1 | h1
    · rw [List.getElem?_append_left (by rw [List.length_take, rowAt_length]; omega), List.getElem?_take, if_pos h1, rowAt_get _ _ _ _ hi, if_neg (by omega), if_neg (by omega)]
    · rw [List.getElem?_append_right (by rw [List.length_take, rowAt_length]; omega), List.length_take, rowAt_length, if_pos h1]
      have hm : min (64 * q) N = 64 * q := by omega
      rw [hm]
      rcases Nat.lt_or_ge (i - 64 * q) cs.length with h2 | h2
      · rw [List.getElem?_append_left h2, hcs, List.getElem?_take, if_pos (by omega), octCells_get _ _ _ (by omega)]
        congr 4; omega
      · rw [List.getElem?_append_right h2, List.getElem?_drop, rowAt_get _ _ _ _ (by omega), if_pos (by omega)]
        congr 4; omega
  · rw [List.getElem?_eq_none (by simp [rowAt_length]; omega), List.getElem?_eq_none (by rw [rowAt_length]; exact hi)]

theorem info_u8 : (Try.prog.info? 5).map (fun i => (i.zero, i.size, i.bytes)) = some (some (.int .u8 0), 1, 1) := by kernel_rfl
theorem made_u8 (N : Nat) : madeCells (Value.int .u8 0).cells N = (List.replicate N (Value.int .u8 0)).toArray := by
  unfold madeCells
  apply Array.ext
  · simp
  · intro k h1 h2
    simp [Value.cells, Nat.mod_one]
theorem run_make_u8 (w : World) (N : Nat) (h : N ≤ 281474976710656) :
    (Instr.makeSlice 22 (.int .i64 (N : Int)) (.int .i64 (N : Int))).run Try.prog w = .ok (.slice (some ⟨w.heap.size, 0, none⟩) N N) (w.alloc (.cells (List.replicate N (Value.int .u8 0)).toArray 5)) := by
  obtain ⟨i, h2, h3, h4, h5⟩ := info_parts info_u8
  have := run_make (P := Try.prog) w 22 5 i (.int .u8 0) Try.underlying22 h2 h3 .i64 .i64 N N (by omega) (Int.le_refl _) (by rw [h5]; omega) (by omega)
  rw [this, h4]
  simp only [Int.toNat_natCast, Nat.mul_one, made_u8]
theorem wpList_make_u8 {ops : Array Oper} {rest : List Oper} {o : Oper} {a : Act} {Q : Exit → Act → World → Prop} {w : World} (hg : o.guard = none) (x y : Operand) (hop : o.op = Op.makeSlice 22 x y)
    (N : Nat) (h : N ≤ 281474976710656) (hx : a.eval x = .int .i64 N) (hy : a.eval y = .int .i64 N)
    (hK : ∀ w1 : World, w1.heap[w.heap.size]? = some (.cells (List.replicate N (Value.int .u8 0)).toArray 5 (0, 0)) → Below w.heap.size w w1 → w.heap.size < w1.heap.size →
      wpList Try.prog ops Q rest (a.put o.dst (.slice (some ⟨w.heap.size, 0, none⟩) N N)) w1) : wpList Try.prog ops Q (o :: rest) a w := by
  refine wpList_plain hg fun K hK' => ?_
  unfold Oper.wp
  simp [execOp, hop, hx, hy, run_make_u8 w N h, Result.andThen]
  exact hK' _ _ (hK _ (heap_alloc_new w _) ((Below.refl _ _).alloc (Nat.le_refl _) _) (by simp))

theorem give_len (B : List Bool) (hT : ((B.length : Int) / 512 * 64).toNat = 64 * (B.length / 512)) :
    ((octCells B (B.length / 512)).take ((B.length + 7) / 8 - 64 * (B.length / 512))).length = Nat.min 64 ((B.length + 7) / 8 - ((B.length : Int) / 512 * 64).toNat) := by
  rw [hT, List.length_take, octCells_length, Nat.min_comm]
theorem give_pos (B : List Bool) (b g : Nat) (w : World) (c : Option Addr) (hc : w.heap[b]? = some (wrObj c B)) (hT : ((B.length : Int) / 512 * 64).toNat = 64 * (B.length / 512)) :
    0 < ((octCells B (B.length / 512)).take ((B.length + 7) / 8 - 64 * (B.length / 512))).length →
      (if (B.length + 7) / 8 = ((B.length : Int) / 512 * 64).toNat then some (⟨g, 0, none⟩ : Addr) else some ⟨g, ((B.length : Int) / 512 * 64).toNat, none⟩) = some ⟨g, 64 * (B.length / 512), none⟩ ∧
      ∃ ad, (some (⟨b, 1, none⟩ : Addr)) = some ad ∧ ∀ j v, ((octCells B (B.length / 512)).take ((B.length + 7) / 8 - 64 * (B.length / 512)))[j]? = some v → w.cell? (ad.add j) = some v := by
  intro h
  rw [List.length_take, octCells_length] at h
  refine ⟨by rw [hT, if_neg (by omega)], ⟨b, 1, none⟩, rfl, fun j v hv => ?_⟩
  rw [Addr.add_mid]
  rw [List.getElem?_take] at hv
  split at hv
  · refine cell_of_list hc ?_
    unfold wrCells
    rw [Nat.add_comm 1 j, List.getElem?_cons_succ, List.getElem?_append_left (List.getElem?_eq_some_iff.1 hv).1, hv]
  · cases hv
theorem give_fit (B : List Bool) : 64 * (B.length / 512) + ((octCells B (B.length / 512)).take ((B.length + 7) / 8 - 64 * (B.length / 512))).length ≤ (List.replicate ((B.length + 7) / 8) (Value.int .u8 0)).length := by
  rw [List.length_take, octCells_length, List.length_replicate]; omega
theorem give_one (B : List Bool) (q m : Nat) : ∀ v ∈ (octCells B q).take m, v.oneCell' = true := by
  intro v hv
  have := List.mem_of_mem_take hv
  unfold octCells at this
  simp only [List.mem_map] at this
  obtain ⟨i, _, rfl⟩ := this
  rfl

theorem give2_len (B : List Bool) (q : Nat) : ((octCells B q).take ((B.length + 7) / 8 - 64 * q)).length = Nat.min 64 ((B.length + 7) / 8 - (64 * (q : Int)).toNat) := by
  have hT : (64 * (q : Int)).toNat = 64 * q := by omega
  rw [hT, List.length_take, octCells_length, Nat.min_comm]
theorem give2_pos (B : List Bool) (d g q : Nat) (w : World) (c : Option Addr) (hc : w.heap[d]? = some (chObj c B q)) :
    0 < ((octCells B q).take ((B.length + 7) / 8 - 64 * q)).length →
      (if (B.length + 7) / 8 = (64 * (q : Int)).toNat then some (⟨g, 0, none⟩ : Addr) else some ⟨g, (64 * (q : Int)).toNat, none⟩) = some ⟨g, 64 * q, none⟩ ∧
      ∃ ad, (some (⟨d, 1, none⟩ : Addr)) = some ad ∧ ∀ j v, ((octCells B q).take ((B.length + 7) / 8 - 64 * q))[j]? = some v → w.cell? (ad.add j) = some v := by
  intro h
  have hT : (64 * (q : Int)).toNat = 64 * q := by omega
  rw [List.length_take, octCells_length] at h
  refine ⟨by rw [hT, if_neg (by omega)], ⟨d, 1, none⟩, rfl, fun j v hv => ?_⟩
  rw [Addr.add_mid]
  rw [List.getElem?_take] at hv
  split at hv
  · refine cell_of_list hc ?_
    rw [Nat.add_comm 1 j, List.getElem?_cons_succ, hv]
  · cases hv
theorem give2_fit (B : List Bool) (q : Nat) (h : 64 * q ≤ (B.length + 7) / 8) : 64 * q + ((octCells B q).take ((B.length + 7) / 8 - 64 * q)).length ≤ (rowAt B ((B.length + 7) / 8) (q + 1)).length := by
  rw [List.length_take, octCells_length, rowAt_length]; omega
theorem wbytes_ok (w : World) (b : Nat) (B : List Bool) (h : WrAt w b B) (hB : B ≠ []) (hn : B.length ≤ 100000000000) :
    Calls Try.prog 16 #[.pointer (some ⟨b, 0, none⟩)] w fun e w' =>
      e = .returned (.slice (some ⟨w.heap.size, 0, none⟩) ((B.length + 7) / 8) ((B.length + 7) / 8)) ∧ w'.heap[w.heap.size]? = some (.cells (u8s (octs B)).toArray 5 (0, 0)) ∧ Below w.heap.size w w' := by
  have h65 := h.len65
  have hpos : 0 < B.length := by cases B <;> simp_all
  have HW := Lib.hid h
  have he : ((B.length : Int) == 0) = false := by simp; omega
  have eN : ((B.length : Int) + 7) / 8 = (((B.length + 7) / 8 : Nat) : Int) := by omega
  have EN := Lib.hid eN
  have hlt := h.lt
  clear h hB eN
  go_enter Try.func16, Try.ntmps16
  go_wp2_with (at_make; refine wpList_make_u8 rfl (.tmp 21) (.tmp 21) rfl ((B.length + 7) / 8) (by omega) (congrArg (Value.int .i64) EN.out) (congrArg (Value.int .i64) EN.out) ?_; intro w1 hG hbl hsz; have h65' := (HW.out.below hbl).len65; have HG := Lib.hid hG; have HBL := Lib.hid hbl; clear hG hbl h65)
  have hs0 : 0 ≤ (B.length : Int) / 512 * 64 := by omega
  have hs1 : (B.length : Int) / 512 * 64 ≤ ((B.length : Int) + 7) / 8 := by omega
  have hT : Hid (((B.length : Int) / 512 * 64).toNat = 64 * (B.length / 512)) := by show _ = _; omega
  obtain ⟨c, hc0, hch⟩ := HW.out
  have hc : w1.heap[b]? = some (wrObj c B) := (HBL.out.block b hlt).trans hc0
  have HC := Lib.hid hc
  have HCH := Lib.hid hch
  clear hc hch hc0
  go_region_law (refine step_copy_splice rfl (.tmp 31) (.tmp 35) 22 22 rfl 5 Try.underlying22 (by kernel_rfl) (if (B.length + 7) / 8 = ((B.length : Int) / 512 * 64).toNat then some ⟨w.heap.size, 0, none⟩ else some ⟨w.heap.size, ((B.length : Int) / 512 * 64).toNat, none⟩) (some ⟨b, 1, none⟩) ((B.length + 7) / 8 - ((B.length : Int) / 512 * 64).toNat) ((B.length + 7) / 8 - ((B.length : Int) / 512 * 64).toNat) 64 64 (by kernel_rfl) (by kernel_rfl) w.heap.size (64 * (B.length / 512)) (List.replicate ((B.length + 7) / 8) (Value.int .u8 0)) 5 HG.out ((octCells B (B.length / 512)).take ((B.length + 7) / 8 - 64 * (B.length / 512))) (give_len B hT.out) (give_pos B b w.heap.size w1.drew c HC.out hT.out) (give_fit B) (give_one B _ _) w.heap.size w (HBL.out.drew) (Nat.le_refl _) ?_; intro w2 hg2 hb2)
  generalize (if (B.length + 7) / 8 = ((B.length : Int) / 512 * 64).toNat then some (⟨w.heap.size, 0, none⟩ : Addr) else some ⟨w.heap.size, ((B.length : Int) / 512 * 64).toNat, none⟩) = X31
  generalize Value.int IntKind.i64 ((min ((B.length + 7) / 8 - 64 * (B.length / 512)) (octCells B (B.length / 512)).length : Nat) : Int) = X36
  have h0' : w2.cell? ⟨b, 0, none⟩ = some (.pointer c) := by
    have h1 : w2.heap[b]? = w1.heap[b]? := (hb2.block b hlt).trans (HBL.out.block b hlt).symm
    exact cell_of_list (h1.trans HC.out) rfl
  have hrow : w2.heap[w.heap.size]? = some (.cells (rowAt B ((B.length + 7) / 8) (B.length / 512)).toArray 5 (0, 0)) := by
    have := hg2.out
    rwa [← rowAt_new B ((B.length + 7) / 8) (B.length / 512 + 1) (by omega), rowAt_step _ _ _ _ rfl] at this
  have HROW := Lib.hid hrow
  have HB2 := Lib.hid hb2
  clear hrow hb2 hg2 HC HG HBL h65'
  go_wp2_with fail
  go_loopw [4, 5] (fun at_ cc wr => ∃ (q : Nat) (c' : Option Addr), at_ = .int .i64 ((64 * q : Nat) : Int) ∧ cc = .pointer c' ∧ q ≤ B.length / 512 ∧ Chain w B q c' ∧ wr.heap[w.heap.size]? = some (.cells (rowAt B ((B.length + 7) / 8) q).toArray 5 (0, 0)) ∧ Below w.heap.size w wr) (fun at_ _ _ => (intOf at_).toNat)
  case atStart => exact ⟨B.length / 512, c, by congr 1; omega, rfl, Nat.le_refl _, HCH.out, HROW.out, HB2.out⟩
  case round =>
    obtain ⟨q, c', rfl, rfl, hq, hch, hrow, hbl⟩ := hrel
    cases q with
    | zero =>
      have hc' : c' = none := hch
      subst hc'
      rw [rowAt_zero] at hrow
      have HROW' := Lib.hid hrow
      have HB' := Lib.hid hbl
      clear hch hrow hbl
      go_wp2_with fail
      go_ret
      exact ⟨rfl, HROW'.out, HB'.out⟩
    | succ q =>
      obtain ⟨d, c'', rfl, hd, hch'⟩ := hch
      have hd' : wr.heap[d]? = some (chObj c'' B q) := (hbl.block d (Array.getElem?_eq_some_iff.1 hd).1).trans hd
      have HD := Lib.hid hd'
      have HROW' := Lib.hid hrow
      have HB' := Lib.hid hbl
      have HCH' := Lib.hid hch'
      have hlt' := (Array.getElem?_eq_some_iff.1 hd).1
      clear hd hd' hrow hbl hch'
      go_wp2_with fail
      have hq0 : (0 : Int) ≤ 64 * (q : Int) := by omega
      have hq1 : 64 * (q : Int) ≤ ((B.length : Int) + 7) / 8 := by omega
      rw [show (64 * ((q : Int) + 1) - 64) = 64 * (q : Int) from by omega]
      go_region_law (refine step_copy_splice rfl (.tmp 51) (.tmp 55) 22 22 rfl 5 Try.underlying22 (by kernel_rfl) (if (B.length + 7) / 8 = (64 * (q : Int)).toNat then some ⟨w.heap.size, 0, none⟩ else some ⟨w.heap.size, (64 * (q : Int)).toNat, none⟩) (some ⟨d, 1, none⟩) ((B.length + 7) / 8 - (64 * (q : Int)).toNat) ((B.length + 7) / 8 - (64 * (q : Int)).toNat) 64 64 (by kernel_rfl) (by kernel_rfl) w.heap.size (64 * q) (rowAt B ((B.length + 7) / 8) (q + 1)) 5 HROW'.out ((octCells B q).take ((B.length + 7) / 8 - 64 * q)) (give2_len B q) (give2_pos B d w.heap.size q wr.drew c'' HD.out) (give2_fit B q (by omega)) (give_one B _ _) w.heap.size w (HB'.out.drew) (Nat.le_refl _) ?_; intro w3 hg3 hb3)
      have hrow3 := hg3.out
      rw [rowAt_step _ _ _ _ rfl] at hrow3
      have h0'' : w3.cell? ⟨d, 0, none⟩ = some (.pointer c'') := by
        have h1 : w3.heap[d]? = wr.heap[d]? := (hb3.block d hlt').trans (HB'.out.block d hlt').symm
        exact cell_of_list (h1.trans HD.out) rfl
      have HROW3 := Lib.hid hrow3
      have HB3 := Lib.hid hb3
      clear hrow3 hb3 hg3 HD HROW' HB' h0'
      generalize (if (B.length + 7) / 8 = (64 * (q : Int)).toNat then some (⟨w.heap.size, 0, none⟩ : Addr) else some ⟨w.heap.size, (64 * (q : Int)).toNat, none⟩) = X51
      generalize Value.int IntKind.i64 ((min ((B.length + 7) / 8 - 64 * q) (octCells B q).length : Nat) : Int) = X56
      go_wp2_with fail
      go_roundw
      case rel => exact ⟨q, c'', by congr 1, rfl, by omega, HCH'.out, HROW3.out, HB3.out⟩
      case measure => simp [intOf]; omega
end Go.Proofs.Ytbbbgoigacledaa
