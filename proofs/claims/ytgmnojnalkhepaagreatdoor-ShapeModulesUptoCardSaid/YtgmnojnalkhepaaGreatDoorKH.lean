/-
  A bundle of texts, one behind the other: ShN9, ShNU.
-/
import Derived.Test.YtgmnojnalkhepaaGreatDoorKG
import Derived.Test.YtgmnojnalkhepaaGreatDoorJU
/-
  Weights of modules: what is well-formed and light has a short text; no walk here.
-/
namespace Go.Proofs.YtgmnojnalkhepaaGreatDoor
open Go.RowKit
set_option linter.unusedVariables false
set_option linter.unusedSimpArgs false
set_option maxRecDepth 100000

def IM.wt (i : IM) : Nat := 1 + i.nm.wt + i.fr.size
def DF.wt (d : DF) : Nat := 1 + d.name.size + d.t.wt
def MT.wt (m : MT) : Nat := 1 + m.name.size + sumN (fun i => (m.im i).wt) m.ni + sumN (fun i => (m.df i).wt) m.nd
theorem IM.txt_wt (i : IM) : i.txt.length ≤ 10 * i.wt := by
  have e1 : i.fr.data.toList.length = i.fr.size := Array.length_toList
  have h1 := sumN_le_mul (n := i.nm.n) (a := 2) (f := fun k => (cms i.nm.f k).length) (g := fun k => (i.nm.f k).size + 1) (fun k _ => by
    have e2 : (i.nm.f k).data.toList.length = (i.nm.f k).size := Array.length_toList
    show (cms i.nm.f k).length ≤ _
    unfold cms
    rw [List.length_append, List.length_cons, e2]
    split <;> simp <;> omega)
  unfold IM.txt IM.wt SL.wt
  rw [List.length_append, List.length_append, catL_len, e1]
  simp only [List.length_cons, List.length_nil]
  omega
theorem DF.txt_wt {B : Nat} {W : World} (d : DF) (h : DFIn B W d) (hq : TQ d.t) : d.txt.length ≤ 100 * d.wt := by
  have e1 : d.name.data.toList.length = d.name.size := Array.length_toList
  have h1 := TT.txt_wt d.t h.2 hq
  unfold DF.txt DF.wt
  simp only [List.length_append, List.length_cons, List.length_nil]
  omega
theorem MT.txt_wt {B : Nat} {W : World} (m : MT) (h : MIn B W m) (hq : MQ m) : m.txt.length ≤ 200 * m.wt := by
  have e1 : m.name.data.toList.length = m.name.size := Array.length_toList
  have h1 := sumN_le_mul (n := m.ni) (a := 10) (f := fun i => (m.im i).txt.length) (g := fun i => (m.im i).wt) (fun i _ => (m.im i).txt_wt)
  have h2 := sumN_le_mul (n := m.nd) (a := 100) (f := fun i => (m.df i).txt.length) (g := fun i => (m.df i).wt) (fun i hi => (m.df i).txt_wt (h.2.2.2 i hi) (hq.2 i hi))
  have h3 : (hdT m.name m.auto).length ≤ m.name.size + 60 := by
    unfold hdT
    rw [List.length_append, e1]
    split <;> simp
  have h4 : (impT m.im m.ni).length ≤ 10 + sumN (fun i => (m.im i).txt.length) m.ni := by
    unfold impT
    split
    · simp only [List.length_append, List.length_cons, List.length_nil, catL_len]
      omega
    · simp
  unfold MT.txt MT.wt
  rw [List.length_append, List.length_append, List.length_append, catL_len]
  simp only [List.length_cons, List.length_nil]
  omega
theorem MQ_of_ok {B : Nat} {W : World} (m : MT) (h : MIn B W m) (hw : m.wt ≤ 2000000) (hok : m.ok = true) : MQ m := by
  unfold MT.ok fewOk at hok
  simp only [Bool.and_eq_true] at hok
  obtain ⟨_, ⟨_, hi⟩, ⟨_, hd⟩⟩ := hok
  refine ⟨fun i h1 => ?_, fun i h1 => ?_⟩
  · have h2 := allN_iff.1 hi i h1
    unfold IM.ok at h2
    simp only [Bool.and_eq_true] at h2
    exact of_decide_eq_true h2.2.1
  · have h2 := allN_iff.1 hd i h1
    unfold DF.ok at h2
    simp only [Bool.and_eq_true] at h2
    have h3 : (m.df i).wt ≤ sumN (fun i => (m.df i).wt) m.nd := sumN_one (f := fun i => (m.df i).wt) h1
    have h4 : (m.df i).wt ≤ 2000000 := by
      unfold MT.wt at hw
      omega
    exact (okT_text (m.df i).t (h.2.2.2 i h1).2 (by unfold DF.wt at h4; omega) h2.2).1
theorem MT.ok_text {B : Nat} {W : World} (m : MT) (h : MIn B W m) (hw : m.wt ≤ 2000000) (hok : m.ok = true) : MQ m ∧ m.txt.length ≤ 400000000 := by
  have hq := MQ_of_ok m h hw hok
  have := m.txt_wt h hq
  exact ⟨hq, by omega⟩
end Go.Proofs.YtgmnojnalkhepaaGreatDoor

/-
  A module handed in, opened with its weight.
-/
namespace Go.Proofs.YtgmnojnalkhepaaGreatDoor
open Go.RowKit Go.ChangeShapes Go.WideShapes Go.Deep
set_option linter.unusedVariables false
set_option linter.unusedSimpArgs false
set_option maxRecDepth 100000

theorem kImp : Tryz.prog.cellsOf 52 = 2 := by kernel_rfl
theorem kImps : Tryz.prog.cellsOf 22 = 1 := by kernel_rfl
theorem kDef : Tryz.prog.cellsOf 50 = 16 := by kernel_rfl
theorem kDefs : Tryz.prog.cellsOf 23 = 1 := by kernel_rfl
theorem kMod : Tryz.prog.cellsOf 25 = 4 := by kernel_rfl
section
variable {H : Type} {enc : TypeId × Value → H} {W : World}
theorem uopen_imp {fuel : Nat} {cs : List Value} {x : DataW H × List MemPlace} (h : DataW.trod enc Tryz.prog W 0 (fun _ => true) true fuel 52 cs = some x) (hl : Light 52 x.1) :
    ∃ c : IM, cs = c.cells ∧ IMIn W.heap.size W c ∧ c.wt ≤ Rows.uptoBulk x.1 := by
  obtain ⟨n, xs, rfl, hlen, hxl, hbk, hf⟩ := uopen_struct Tryz.underlying52 h hl
  rw [kImp] at hlen
  match cs, hlen with
  | [c0, c1], _ =>
    obtain ⟨y0, g0, f0, l0⟩ := hf 0 _ rfl 35 0 rfl rfl
    obtain ⟨y1, g1, f1, l1⟩ := hf 1 _ rfl 9 1 rfl rfl
    simp only [kStr, kStrs, List.drop_zero, List.drop_succ_cons, List.take_succ_cons, List.take_zero] at f0 f1
    obtain rfl : xs = [y0, y1] := by
      have hxl' : xs.length = 2 := hxl
      match xs, hxl' with
      | [z0, z1], _ =>
        simp only [List.getElem?_cons_zero, List.getElem?_cons_succ, Option.some.injEq] at g0 g1
        rw [g0, g1]
    simp only [List.map_cons, List.map_nil, Rows.uptoBulkAll] at hbk
    obtain ⟨a0, e0, w0, u0⟩ := uopen_sl f0 l0
    obtain ⟨a1, e1, w1, u1⟩ := uopen_str Tryz.underlying9 f1 l1
    simp only [List.cons.injEq, and_true] at e0 e1
    subst e0; subst e1
    refine ⟨⟨a0, a1⟩, rfl, ⟨w0, w1⟩, ?_⟩
    simp only [IM.wt]
    omega
theorem uopen_def {fuel : Nat} {cs : List Value} {x : DataW H × List MemPlace} (h : DataW.trod enc Tryz.prog W 0 (fun _ => true) true fuel 50 cs = some x) (hl : Light 50 x.1) :
    ∃ c : DF, cs = c.cells ∧ DFIn W.heap.size W c ∧ c.wt ≤ Rows.uptoBulk x.1 := by
  obtain ⟨n, xs, rfl, hlen, hxl, hbk, hf⟩ := uopen_struct Tryz.underlying50 h hl
  rw [kDef] at hlen
  match cs, hlen with
  | [c0, c1, c2, c3, c4, c5, c6, c7, c8, c9, c10, c11, c12, c13, c14, c15], _ =>
    obtain ⟨y0, g0, f0, l0⟩ := hf 0 _ rfl 9 0 rfl rfl
    obtain ⟨y1, g1, f1, l1⟩ := hf 1 _ rfl 39 1 rfl rfl
    simp only [kStr, kTyp, List.drop_zero, List.drop_succ_cons, List.take_succ_cons, List.take_zero] at f0 f1
    obtain rfl : xs = [y0, y1] := by
      have hxl' : xs.length = 2 := hxl
      match xs, hxl' with
      | [z0, z1], _ =>
        simp only [List.getElem?_cons_zero, List.getElem?_cons_succ, Option.some.injEq] at g0 g1
        rw [g0, g1]
    simp only [List.map_cons, List.map_nil, Rows.uptoBulkAll] at hbk
    obtain ⟨a0, e0, w0, u0⟩ := uopen_str Tryz.underlying9 f0 l0
    obtain ⟨t, e1, w1, u1⟩ := uopen_type n f1 l1
    simp only [List.cons.injEq, and_true] at e0
    subst e0
    refine ⟨⟨a0, t⟩, ?_, ⟨w0, w1⟩, ?_⟩
    · unfold DF.cells
      rw [← e1]
    · simp only [DF.wt]
      omega
theorem uopen_module (fuel : Nat) {cs : List Value} {x : DataW H × List MemPlace} (h : DataW.trod enc Tryz.prog W 0 (fun _ => true) true fuel 25 cs = some x) (hl : Light 25 x.1) :
    ∃ c : MT, cs = c.cells ∧ MIn W.heap.size W c ∧ c.wt ≤ Rows.uptoBulk x.1 := by
  obtain ⟨n, xs, rfl, hlen, hxl, hbk, hf⟩ := uopen_struct Tryz.underlying25 h hl
  rw [kMod] at hlen
  match cs, hlen with
  | [c0, c1, c2, c3], _ =>
    obtain ⟨y0, g0, f0, l0⟩ := hf 0 _ rfl 9 0 rfl rfl
    obtain ⟨y1, g1, f1, l1⟩ := hf 1 _ rfl 4 1 rfl rfl
    obtain ⟨y2, g2, f2, l2⟩ := hf 2 _ rfl 22 2 rfl rfl
    obtain ⟨y3, g3, f3, l3⟩ := hf 3 _ rfl 23 3 rfl rfl
    simp only [kStr, kBool, kImps, kDefs, List.drop_zero, List.drop_succ_cons, List.take_succ_cons, List.take_zero] at f0 f1 f2 f3
    obtain rfl : xs = [y0, y1, y2, y3] := by
      have hxl' : xs.length = 4 := hxl
      match xs, hxl' with
      | [z0, z1, z2, z3], _ =>
        simp only [List.getElem?_cons_zero, List.getElem?_cons_succ, Option.some.injEq] at g0 g1 g2 g3
        rw [g0, g1, g2, g3]
    simp only [List.map_cons, List.map_nil, Rows.uptoBulkAll] at hbk
    obtain ⟨a0, e0, w0, u0⟩ := uopen_str Tryz.underlying9 f0 l0
    obtain ⟨a1, e1⟩ := open_b f1
    obtain ⟨ia, ni, icap, im, e2, hir, hi, u2⟩ := uopen_row (W := W) (⟨⟨none, 0, 0, fun _ => ByteArray.empty⟩, ByteArray.empty⟩ : IM) IM.cells (fun c => IMIn W.heap.size W c) IM.wt 2 Tryz.underlying22 kImp (by decide) (by decide +kernel) f2 l2
      (fun k cs' x' _ h' hl' => uopen_imp h' hl')
    obtain ⟨da, nd, dcap, df, e3, hdr, hd, u3⟩ := uopen_row (W := W) (⟨ByteArray.empty, .nil⟩ : DF) DF.cells (fun c => DFIn W.heap.size W c) DF.wt 16 Tryz.underlying23 kDef (by decide) (by decide +kernel) f3 l3
      (fun k cs' x' _ h' hl' => uopen_def h' hl')
    simp only [List.cons.injEq, and_true] at e0 e1 e2 e3
    subst e0; subst e1; subst e2; subst e3
    refine ⟨⟨a0, a1, ia, ni, icap, im, da, nd, dcap, df⟩, rfl, ⟨w0, ⟨hir, hi⟩, ⟨hdr, hd⟩⟩, ?_⟩
    simp only [MT.wt]
    omega
end
end Go.Proofs.YtgmnojnalkhepaaGreatDoor
