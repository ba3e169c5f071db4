/-
  A bundle of texts, one behind the other: ShO, ShTL.
-/
import Derived.Test.YtgmnojnalkhepaaGreatDoorJB
import Derived.Deep.Slices
import Derived.Deep.MidRow
import Derived.ProofKit
import Derived.OpenShut
import Derived.Test.YtgmnojnalkhepaaGreatDoorRows
import Derived.Test.YtgmnojnalkhepaaGreatDoorJE
import Derived.Lib.LaidTab
import Derived.LaidLaws
import Derived.Stop.LaidErr
import Derived.MakeChecks
import Derived.HandedShaped
import Derived.Shelf.Vars
import Derived.Lay
/-
  A law's arguments opened: constraints, values and types as trees in memory, out of what the call's data say; their sizes out of what may be reached.
-/
namespace Go.Proofs.YtgmnojnalkhepaaGreatDoor
open Go.RowKit Go.ChangeShapes Go.WideShapes Go.Deep
set_option linter.unusedVariables false
set_option linter.unusedSimpArgs false
set_option maxRecDepth 100000

/-- what a datum weighs is within reach -/
def Light {H : Type} (t : TypeId) (d : DataW H) : Prop := ∀ n ∈ d.weights Tryz.prog t, n ≤ reachBytes
theorem light_all {H : Type} {e : TypeId} : ∀ {l : List (DataW H)}, (∀ n ∈ DataW.weightsAll Tryz.prog e l, n ≤ reachBytes) → ∀ d ∈ l, Light e d
  | [], _, d, hd => by cases hd
  | x :: r, h, d, hd => by
    simp only [DataW.weightsAll, List.mem_append] at h
    rcases List.mem_cons.1 hd with rfl | hd
    · exact fun n hn => h n (.inl hn)
    · exact light_all (fun n hn => h n (.inr hn)) d hd
theorem light_each {H : Type} : ∀ {ts : List TypeId} {l : List (DataW H)}, (∀ n ∈ DataW.weightsEach Tryz.prog ts l, n ≤ reachBytes) → ∀ (i : Nat) (t : TypeId) (d : DataW H), ts[i]? = some t → l[i]? = some d → Light t d
  | [], _, _, i, t, d, ht, _ => by simp at ht
  | _ :: _, [], _, i, t, d, _, hd => by simp at hd
  | t0 :: ts, x :: r, h, i, t, d, ht, hd => by
    simp only [DataW.weightsEach, List.mem_append] at h
    cases i with
    | zero =>
      simp at ht hd
      subst ht
      subst hd
      exact fun n hn => h n (.inl hn)
    | succ i =>
      simp at ht hd
      exact light_each (fun n hn => h n (.inr hn)) i t d ht hd
theorem open_str {H : Type} {enc : TypeId × Value → H} {W : World} {fuel : Nat} {t : TypeId} {cs : List Value} {x : DataW H × List MemPlace} (ht : Tryz.prog.underlying t = some .string)
    (h : DataW.trod enc Tryz.prog W 0 (fun _ => true) true fuel t cs = some x) (hl : Light t x.1) : ∃ s : ByteArray, cs = [.string s] ∧ s.size ≤ 140737488355328 := by
  obtain ⟨s, rfl, rfl, _⟩ := DataW.trod_string ht h
  refine ⟨s, rfl, ?_⟩
  have := hl s.data.toList.length (by simp [DataW.weights])
  have e : s.data.toList.length = s.size := Array.length_toList
  have hr : reachBytes = 140737488351232 := rfl
  omega
theorem open_struct {H : Type} {enc : TypeId × Value → H} {W : World} {fuel : Nat} {t : TypeId} {fs : Array Field} {cs : List Value} {x : DataW H × List MemPlace} (ht : Tryz.prog.underlying t = some (.struct fs))
    (h : DataW.trod enc Tryz.prog W 0 (fun _ => true) true fuel t cs = some x) (hl : Light t x.1) :
    ∃ n, fuel = n + 1 ∧ cs.length = Tryz.prog.cellsOf t ∧ ∀ (i : Nat) (f : Field), fs[i]? = some f → ∀ (ty : TypeId) (off : Nat), f.type = ty → f.offset = off →
      ∃ y, DataW.trod enc Tryz.prog W 0 (fun _ => true) true n ty ((cs.drop off).take (Tryz.prog.cellsOf ty)) = some y ∧ Light ty y.1 := by
  obtain ⟨xs, n, rfl, rfl, hlen, hxs, hf⟩ := DataW.trod_struct ht h
  refine ⟨n, rfl, hlen, fun i f hi ty off e1 e2 => ?_⟩
  subst e1
  subst e2
  have hil : i < xs.length := by
    have := (Array.getElem?_eq_some_iff.1 hi).1
    omega
  have he := hf i f hi
  rw [List.getElem?_eq_getElem hil] at he
  refine ⟨_, he, ?_⟩
  unfold Light at hl
  simp only [DataW.weights, ht] at hl
  refine light_each hl i f.type _ ?_ ?_
  · rw [List.getElem?_map, Array.getElem?_toList, hi]
    rfl
  · rw [List.getElem?_map, List.getElem?_eq_getElem hil]
    rfl
theorem open_row {H : Type} {enc : TypeId × Value → H} {W : World} {X : Type} (dflt : X) (cells : X → List Value) (In : X → Prop) (k : Nat) {t e : TypeId} (ht : Tryz.prog.underlying t = some (.slice e)) (hk : Tryz.prog.cellsOf e = k) (hk0 : 0 < k)
    (hby : 1 ≤ Tryz.prog.bytesOf e) {fuel : Nat} {cs : List Value} {x : DataW H × List MemPlace}
    (h : DataW.trod enc Tryz.prog W 0 (fun _ => true) true fuel t cs = some x) (hl : Light t x.1)
    (hin : ∀ (n : Nat) (cs' : List Value) (x' : DataW H × List MemPlace), fuel = n + 1 → DataW.trod enc Tryz.prog W 0 (fun _ => true) true n e cs' = some x' → Light e x'.1 → ∃ y : X, cs' = cells y ∧ In y) :
    ∃ (a : Option Addr) (n cap : Nat) (f : Nat → X), cs = [.slice a n cap] ∧ RowAt W.heap.size W a n cap k (fun i => cells (f i)) ∧ ∀ i, i < n → In (f i) := by
  rcases DataW.trod_slice ht h with ⟨rfl, _⟩ | ⟨a, len, cap, elems, rest, n, hfu, rfl, rfl, _, hlc, hm, hlen, hel, hsp, _⟩
  · exact ⟨none, 0, 0, fun _ => dflt, rfl, ⟨Nat.le_refl _, by decide, fun _ => ⟨rfl, rfl⟩, fun h => absurd h (by omega)⟩, fun i h => absurd h (by omega)⟩
  unfold Light at hl
  simp only [DataW.weights, ht, List.mem_cons, List.mem_append, List.length_map] at hl
  have hcap : cap ≤ 140737488355328 := by
    have h1 := hl _ (.inl rfl)
    have h2 := (hsp rfl).1
    have hr : reachBytes = 140737488351232 := rfl
    have h3 : (elems.length + rest.length) * 1 ≤ (elems.length + rest.length) * Tryz.prog.bytesOf e := Nat.mul_le_mul_left _ hby
    omega
  have H0 : ∀ i, i < len → ∃ y : X, In y ∧ (cells y).length = k ∧ ∀ j u, (cells y)[j]? = some u → W.cell? ((a.add (i * k)).add j) = some u := by
    intro i hi
    have he := hel i hi
    rw [List.getElem?_eq_getElem (by omega)] at he
    obtain ⟨cs', h1, h2⟩ := Option.bind_eq_some_iff.1 he
    obtain ⟨y, rfl, hy⟩ := hin n cs' _ hfu h2 (light_all (l := elems.map (·.1)) (fun m hm => hl m (.inr (.inl hm))) _ (List.mem_map_of_mem (List.getElem_mem _)))
    rw [hk] at h1
    obtain ⟨_, hcl, hat⟩ := World.cells?_some h1
    refine ⟨y, hy, hcl, fun j u hj => ?_⟩
    have hj4 : j < k := by have := (List.getElem?_eq_some_iff.1 hj).1; omega
    rw [hat j hj4, hj]
  obtain ⟨f, hf⟩ : ∃ f : Nat → X, ∀ i, i < len → In (f i) ∧ (cells (f i)).length = k ∧ ∀ j u, (cells (f i))[j]? = some u → W.cell? ((a.add (i * k)).add j) = some u := by
    refine ⟨fun i => if h : i < len then Classical.choose (H0 i h) else dflt, fun i hi => ?_⟩
    simp only [dif_pos hi]
    exact Classical.choose_spec (H0 i hi)
  refine ⟨some a, len, cap, f, rfl, ⟨hlc, hcap, fun h => (by cases h), fun h0 => ?_⟩, fun i hi => (hf i hi).1⟩
  obtain ⟨g, o, sp⟩ := a
  obtain ⟨_, hl0, hc0⟩ := hf 0 h0
  have hx := hc0 0 _ (List.getElem?_eq_getElem (by omega))
  have hs : sp = none := by
    simp only [Nat.zero_mul, Addr.add, if_true] at hx
    unfold World.cell? at hx
    split at hx
    · simp at hx
      cases sp with
      | none => rfl
      | some _ => simp at hx
    · cases hx
  subst hs
  refine ⟨g, o, rfl, by have h9 := World.block_lt_of_cell? W _ hx; rw [Addr.add_mid, Addr.add_mid] at h9; exact h9, fun i hi j u hj => ?_⟩
  have := (hf i hi).2.2 j u hj
  rwa [Addr.add_mid, Addr.add_mid] at this

theorem i64_of {n : Int} (h : (Lit.int .i64 n).wf = true) : I64 n := by
  simp [Lit.wf, IntKind.min, IntKind.max, IntKind.signed, IntKind.bits] at h
  unfold I64
  omega
theorem kInt : Tryz.prog.cellsOf 3 = 1 := by kernel_rfl
theorem kBool : Tryz.prog.cellsOf 4 = 1 := by kernel_rfl
theorem kStr : Tryz.prog.cellsOf 9 = 1 := by kernel_rfl
theorem kStrs : Tryz.prog.cellsOf 35 = 1 := by kernel_rfl
theorem kCon : Tryz.prog.cellsOf 34 = 6 := by kernel_rfl
theorem kCons : Tryz.prog.cellsOf 32 = 1 := by kernel_rfl
theorem kVal : Tryz.prog.cellsOf 44 = 5 := by kernel_rfl
theorem kVals : Tryz.prog.cellsOf 40 = 1 := by kernel_rfl
theorem kTyp : Tryz.prog.cellsOf 39 = 15 := by kernel_rfl
theorem kTyps : Tryz.prog.cellsOf 37 = 1 := by kernel_rfl
theorem kPart : Tryz.prog.cellsOf 42 = 18 := by kernel_rfl
theorem kParts : Tryz.prog.cellsOf 36 = 1 := by kernel_rfl

section
variable {H : Type} {enc : TypeId × Value → H} {W : World}
theorem open_i {fuel : Nat} {cs : List Value} {x : DataW H × List MemPlace} (h : DataW.trod enc Tryz.prog W 0 (fun _ => true) true fuel 3 cs = some x) : ∃ n : Int, cs = [.int .i64 n] ∧ I64 n := by
  obtain ⟨n, rfl, _, hw⟩ := DataW.trod_int Tryz.underlying3 h
  exact ⟨n, rfl, i64_of hw⟩
theorem open_b {fuel : Nat} {cs : List Value} {x : DataW H × List MemPlace} (h : DataW.trod enc Tryz.prog W 0 (fun _ => true) true fuel 4 cs = some x) : ∃ b : Bool, cs = [.bool b] := by
  obtain ⟨b, rfl, _⟩ := DataW.trod_bool Tryz.underlying4 h
  exact ⟨b, rfl⟩
theorem open_sl {fuel : Nat} {cs : List Value} {x : DataW H × List MemPlace} (h : DataW.trod enc Tryz.prog W 0 (fun _ => true) true fuel 35 cs = some x) (hl : Light 35 x.1) :
    ∃ s : SL, cs = [s.v] ∧ SLIn W.heap.size W s := by
  obtain ⟨a, n, cap, f, rfl, h1, h2⟩ := open_row (W := W) ByteArray.empty (fun s => [.string s]) (fun s => s.size ≤ 140737488355328) 1 Tryz.underlying35 kStr (by decide) (by decide +kernel) h hl
    (fun n cs' x' _ h' hl' => open_str Tryz.underlying9 h' hl')
  exact ⟨⟨a, n, cap, f⟩, rfl, h1, h2⟩
theorem open_con : ∀ (fuel : Nat) {cs : List Value} {x : DataW H × List MemPlace}, DataW.trod enc Tryz.prog W 0 (fun _ => true) true fuel 34 cs = some x → Light 34 x.1 → ∃ c : CT, cs = c.cells ∧ CIn W.heap.size W c := by
  intro fuel
  induction fuel using Nat.strongRecOn with
  | ind fuel ih =>
    intro cs x h hl
    obtain ⟨n, rfl, hlen, hf⟩ := open_struct Tryz.underlying34 h hl
    rw [kCon] at hlen
    match cs, hlen with
    | [c0, c1, c2, c3, c4, c5], _ =>
      obtain ⟨y0, f0, _⟩ := hf 0 _ rfl 3 0 rfl rfl
      obtain ⟨y1, f1, _⟩ := hf 1 _ rfl 3 1 rfl rfl
      obtain ⟨y2, f2, _⟩ := hf 2 _ rfl 3 2 rfl rfl
      obtain ⟨y3, f3, _⟩ := hf 3 _ rfl 4 3 rfl rfl
      obtain ⟨y4, f4, _⟩ := hf 4 _ rfl 4 4 rfl rfl
      obtain ⟨y5, f5, l5⟩ := hf 5 _ rfl 32 5 rfl rfl
      simp only [kInt, kBool, kCons, List.drop_zero, List.drop_succ_cons, List.take_succ_cons, List.take_zero] at f0 f1 f2 f3 f4 f5
      obtain ⟨a0, e0, w0⟩ := open_i f0
      obtain ⟨a1, e1, w1⟩ := open_i f1
      obtain ⟨a2, e2, w2⟩ := open_i f2
      obtain ⟨a3, e3⟩ := open_b f3
      obtain ⟨a4, e4⟩ := open_b f4
      obtain ⟨a, m, cap, ch, e5, hr, hc⟩ := open_row (W := W) CT.nil CT.cells (fun c => CIn W.heap.size W c) 6 Tryz.underlying32 kCon (by decide) (by decide +kernel) f5 l5
        (fun k cs' x' hk h' hl' => ih k (by omega) h' hl')
      simp only [List.cons.injEq, and_true] at e0 e1 e2 e3 e4 e5
      subst e0; subst e1; subst e2; subst e3; subst e4; subst e5
      exact ⟨.mk a0 a1 a2 a3 a4 a m cap ch, rfl, ⟨w0, w1, w2⟩, hr, hc⟩
theorem open_val : ∀ (fuel : Nat) {cs : List Value} {x : DataW H × List MemPlace}, DataW.trod enc Tryz.prog W 0 (fun _ => true) true fuel 44 cs = some x → Light 44 x.1 → ∃ c : VT, cs = c.cells ∧ VIn W.heap.size W c := by
  intro fuel
  induction fuel using Nat.strongRecOn with
  | ind fuel ih =>
    intro cs x h hl
    obtain ⟨n, rfl, hlen, hf⟩ := open_struct Tryz.underlying44 h hl
    rw [kVal] at hlen
    match cs, hlen with
    | [c0, c1, c2, c3, c4], _ =>
      obtain ⟨y0, f0, _⟩ := hf 0 _ rfl 3 0 rfl rfl
      obtain ⟨y1, f1, _⟩ := hf 1 _ rfl 3 1 rfl rfl
      obtain ⟨y2, f2, l2⟩ := hf 2 _ rfl 9 2 rfl rfl
      obtain ⟨y3, f3, l3⟩ := hf 3 _ rfl 35 3 rfl rfl
      obtain ⟨y4, f4, l4⟩ := hf 4 _ rfl 40 4 rfl rfl
      simp only [kInt, kStr, kStrs, kVals, List.drop_zero, List.drop_succ_cons, List.take_succ_cons, List.take_zero] at f0 f1 f2 f3 f4
      obtain ⟨a0, e0, w0⟩ := open_i f0
      obtain ⟨a1, e1, w1⟩ := open_i f1
      obtain ⟨a2, e2, w2⟩ := open_str Tryz.underlying9 f2 l2
      obtain ⟨a3, e3, w3⟩ := open_sl f3 l3
      obtain ⟨a, m, cap, ch, e4, hr, hc⟩ := open_row (W := W) VT.nil VT.cells (fun c => VIn W.heap.size W c) 5 Tryz.underlying40 kVal (by decide) (by decide +kernel) f4 l4
        (fun k cs' x' hk h' hl' => ih k (by omega) h' hl')
      simp only [List.cons.injEq, and_true] at e0 e1 e2 e3 e4
      subst e0; subst e1; subst e2; subst e3; subst e4
      exact ⟨.mk a0 a1 a2 a3 a m cap ch, rfl, ⟨w0, w1, w2, w3⟩, hr, hc⟩
theorem open_dl {fuel : Nat} {cs : List Value} {x : DataW H × List MemPlace} (h : DataW.trod enc Tryz.prog W 0 (fun _ => true) true fuel 40 cs = some x) (hl : Light 40 x.1) :
    ∃ d : DL, cs = [d.v] ∧ DLIn W.heap.size W d := by
  obtain ⟨a, n, cap, f, rfl, h1, h2⟩ := open_row (W := W) VT.nil VT.cells (fun c => VIn W.heap.size W c) 5 Tryz.underlying40 kVal (by decide) (by decide +kernel) h hl
    (fun n cs' x' _ h' hl' => open_val n h' hl')
  exact ⟨⟨a, n, cap, f⟩, rfl, h1, h2⟩
/-- a part, its type opened by what is handed -/
theorem open_part {fuel : Nat} {cs : List Value} {x : DataW H × List MemPlace} (h : DataW.trod enc Tryz.prog W 0 (fun _ => true) true fuel 42 cs = some x) (hl : Light 42 x.1)
    (ih : ∀ (n : Nat) {cs : List Value} {x : DataW H × List MemPlace}, n < fuel → DataW.trod enc Tryz.prog W 0 (fun _ => true) true n 39 cs = some x → Light 39 x.1 → ∃ c : TT, cs = c.cells ∧ TIn W.heap.size W c) :
    ∃ y : PD × TT, cs = pcells y.1 y.2 ∧ PDIn W.heap.size W y.1 ∧ TIn W.heap.size W y.2 := by
  obtain ⟨n, rfl, hlen, hf⟩ := open_struct Tryz.underlying42 h hl
  rw [kPart] at hlen
  match cs, hlen with
  | [c0, c1, c2, c3, c4, c5, c6, c7, c8, c9, c10, c11, c12, c13, c14, c15, c16, c17], _ =>
    obtain ⟨y0, f0, l0⟩ := hf 0 _ rfl 9 0 rfl rfl
    obtain ⟨y1, f1, l1⟩ := hf 1 _ rfl 39 1 rfl rfl
    obtain ⟨y2, f2, _⟩ := hf 2 _ rfl 4 16 rfl rfl
    obtain ⟨y3, f3, l3⟩ := hf 3 _ rfl 40 17 rfl rfl
    simp only [kStr, kTyp, kBool, kVals, List.drop_zero, List.drop_succ_cons, List.take_succ_cons, List.take_zero] at f0 f1 f2 f3
    obtain ⟨a0, e0, w0⟩ := open_str Tryz.underlying9 f0 l0
    obtain ⟨t, e1, w1⟩ := ih n (by omega) f1 l1
    obtain ⟨a2, e2⟩ := open_b f2
    obtain ⟨d, e3, w3⟩ := open_dl f3 l3
    simp only [List.cons.injEq, and_true] at e0 e2 e3
    subst e0; subst e2; subst e3
    refine ⟨(⟨a0, a2, d⟩, t), ?_, ⟨w0, w3⟩, w1⟩
    unfold pcells
    rw [← e1]
    rfl
theorem open_type : ∀ (fuel : Nat) {cs : List Value} {x : DataW H × List MemPlace}, DataW.trod enc Tryz.prog W 0 (fun _ => true) true fuel 39 cs = some x → Light 39 x.1 → ∃ c : TT, cs = c.cells ∧ TIn W.heap.size W c := by
  intro fuel
  induction fuel using Nat.strongRecOn with
  | ind fuel ih =>
    intro cs x h hl
    obtain ⟨n, rfl, hlen, hf⟩ := open_struct Tryz.underlying39 h hl
    rw [kTyp] at hlen
    match cs, hlen with
    | [c0, c1, c2, c3, c4, c5, c6, c7, c8, c9, c10, c11, c12, c13, c14], _ =>
      obtain ⟨y0, f0, l0⟩ := hf 0 _ rfl 3 0 rfl rfl
      obtain ⟨y1, f1, l1⟩ := hf 1 _ rfl 9 1 rfl rfl
      obtain ⟨y2, f2, l2⟩ := hf 2 _ rfl 34 2 rfl rfl
      obtain ⟨y3, f3, l3⟩ := hf 3 _ rfl 4 8 rfl rfl
      obtain ⟨y4, f4, l4⟩ := hf 4 _ rfl 9 9 rfl rfl
      obtain ⟨y5, f5, l5⟩ := hf 5 _ rfl 35 10 rfl rfl
      obtain ⟨y6, f6, l6⟩ := hf 6 _ rfl 35 11 rfl rfl
      obtain ⟨y7, f7, l7⟩ := hf 7 _ rfl 36 12 rfl rfl
      obtain ⟨y8, f8, l8⟩ := hf 8 _ rfl 36 13 rfl rfl
      obtain ⟨y9, f9, l9⟩ := hf 9 _ rfl 37 14 rfl rfl
      simp only [kInt, kStr, kCon, kBool, kStrs, kParts, kTyps, List.drop_zero, List.drop_succ_cons, List.take_succ_cons, List.take_zero] at f0 f1 f2 f3 f4 f5 f6 f7 f8 f9
      obtain ⟨a0, e0, w0⟩ := open_i f0
      obtain ⟨a1, e1, w1⟩ := open_str Tryz.underlying9 f1 l1
      obtain ⟨c, e2, w2⟩ := open_con n f2 l2
      obtain ⟨a3, e3⟩ := open_b f3
      obtain ⟨a4, e4, w4⟩ := open_str Tryz.underlying9 f4 l4
      obtain ⟨a5, e5, w5⟩ := open_sl f5 l5
      obtain ⟨a6, e6, w6⟩ := open_sl f6 l6
      have hpart : ∀ (k : Nat) (cs' : List Value) (x' : DataW H × List MemPlace), n = k + 1 → DataW.trod enc Tryz.prog W 0 (fun _ => true) true k 42 cs' = some x' → Light 42 x'.1 →
          ∃ y : PD × TT, cs' = pcells y.1 y.2 ∧ (PDIn W.heap.size W y.1 ∧ TIn W.heap.size W y.2) := fun k cs' x' hk h' hl' => open_part h' hl' (fun m _ _ hm => ih m (by omega))
      obtain ⟨pa, pn, pc, pf, e7, hpr, hp⟩ := open_row (W := W) ((⟨ByteArray.empty, false, ⟨none, 0, 0, fun _ => .nil⟩⟩, .nil) : PD × TT) (fun y => pcells y.1 y.2) (fun y => PDIn W.heap.size W y.1 ∧ TIn W.heap.size W y.2) 18 Tryz.underlying36 kPart (by decide) (by decide +kernel) f7 l7 hpart
      obtain ⟨aa, an, ac, af, e8, har, ha⟩ := open_row (W := W) ((⟨ByteArray.empty, false, ⟨none, 0, 0, fun _ => .nil⟩⟩, .nil) : PD × TT) (fun y => pcells y.1 y.2) (fun y => PDIn W.heap.size W y.1 ∧ TIn W.heap.size W y.2) 18 Tryz.underlying36 kPart (by decide) (by decide +kernel) f8 l8 hpart
      obtain ⟨ea, en, ec, ef, e9, her, he⟩ := open_row (W := W) TT.nil TT.cells (fun c => TIn W.heap.size W c) 15 Tryz.underlying37 kTyp (by decide) (by decide +kernel) f9 l9
        (fun k cs' x' hk h' hl' => ih k (by omega) h' hl')
      simp only [List.cons.injEq, and_true] at e0 e1 e3 e4 e5 e6 e7 e8 e9
      subst e0; subst e1; subst e3; subst e4; subst e5; subst e6; subst e7; subst e8; subst e9
      refine ⟨.mk a0 a1 c a3 a4 a5 a6 ⟨pa, pn, pc, fun i => (pf i).1⟩ (fun i => (pf i).2) ⟨aa, an, ac, fun i => (af i).1⟩ (fun i => (af i).2) ea en ec ef, ?_, ⟨w0, w1, w2, w4, w5, w6⟩, ⟨hpr, hp⟩, ⟨har, ha⟩, ⟨her, he⟩⟩
      simp only [TT.cells]
      rw [← e2]
      rfl
end
end Go.Proofs.YtgmnojnalkhepaaGreatDoor

/-
  The laws of package shape: what the program's variables are when a call begins; arguments within reach.
-/
namespace Go.Proofs.YtgmnojnalkhepaaGreatDoor
open Go.RowKit
set_option linter.unusedVariables false
set_option linter.unusedSimpArgs false
set_option maxRecDepth 100000

theorem laid_mem {P : Program} {W : World} : ∀ {l : List (String × DataW Unit)} {ps : List MemPlace}, DataW.LaidVars P W l ps → ∀ {n : String} {d : DataW Unit}, (n, d) ∈ l →
    ∃ g t cs fuel p, P.globalNamed n = some g ∧ (P.globals[g]?).map (·.type) = some t ∧ W.var? P n = some cs ∧ DataW.trod (fun _ => ()) P W 0 (fun _ => true) false fuel t cs.toList = some (d, p)
  | [], _, _, n, d, hm => by cases hm
  | (n0, d0) :: r, ps, h, n, d, hm => by
    obtain ⟨g, t, cs, fuel, p, q, h1, h2, h3, h4, h5, _⟩ := h
    rcases List.mem_cons.1 hm with e | hm
    · injection e with e1 e2
      subst e1
      subst e2
      exact ⟨g, t, cs, fuel, p, h1, h2, h3, h4⟩
    · exact laid_mem h5 hm
abbrev laidL : List (String × DataW Unit) := Rows.shapeModulesRow.laid
theorem mem_er : ("strconv.ErrRange", Rows.laid_strconv_ErrRange) ∈ laidL := .tail _ (.tail _ (.tail _ (.tail _ (.head _))))
theorem mem_sg : ("spandrel/token.signs", Rows.laid_spandrel_token_signs) ∈ laidL := .tail _ (.tail _ (.tail _ (.tail _ (.tail _ (.tail _ (.head _))))))
theorem mem_tab : ("internal/strconv.uint64pow10", Rows.laid_internal_strconv_uint64pow10) ∈ laidL := .tail _ (.tail _ (.head _))
theorem gTabT : (Tryz.prog.globals[4]?).map (·.type) = some 162 := by kernel_rfl
theorem gEr : Tryz.prog.globalNamed "strconv.ErrRange" = some 6 := by kernel_rfl
theorem gErT : (Tryz.prog.globals[6]?).map (·.type) = some 98 := by kernel_rfl
theorem gSg : Tryz.prog.globalNamed "spandrel/token.signs" = some 0 := by kernel_rfl
theorem gSgT : (Tryz.prog.globals[0]?).map (·.type) = some 133 := by kernel_rfl
theorem cStr : Tryz.prog.cellsOf 9 = 1 := by kernel_rfl
theorem sg_datum : (Rows.laid_spandrel_token_signs : DataW Unit) = .agg (sgB.map fun b => .lit (.string b.data.toList)) := rfl
theorem er_of {W : World} (h : laidMet Tryz.prog laidL W) : ErAt W := by
  obtain ⟨ps, hv, _, _⟩ := h
  obtain ⟨g, t, cs, fuel, p, hg, ht, hvar, hd⟩ := laid_mem hv mem_er
  obtain rfl := Option.some.inj (gEr.symm.trans hg)
  obtain rfl := Option.some.inj (gErT.symm.trans ht)
  obtain ⟨_, u, v, hcs, _, _⟩ := iface_of_trod Tryz.underlying98 hd
  refine ⟨u, v, (World.var?_cell gEr hvar 0).trans ?_⟩
  rw [← Array.getElem?_toList, hcs]
  rfl
theorem sg_of {W : World} (h : laidMet Tryz.prog laidL W) : SgAt W := by
  obtain ⟨ps, hv, _, _⟩ := h
  obtain ⟨g, t, cs, fuel, p, hg, ht, hvar, hd⟩ := laid_mem hv mem_sg
  obtain rfl := Option.some.inj (gSg.symm.trans hg)
  obtain rfl := Option.some.inj (gSgT.symm.trans ht)
  rw [sg_datum] at hd
  obtain ⟨xs, m, _, hx, _, hn, hel⟩ := DataW.trod_array Tryz.underlying133 hd
  injection hx with hx1 _
  injection hx1 with hx1
  intro i hi
  have he := hel i hi
  rw [cStr, Nat.mul_one] at he
  obtain ⟨y, hy⟩ : ∃ y, xs[i]? = some y := ⟨xs[i]'(by omega), List.getElem?_eq_getElem (by omega)⟩
  rw [hy] at he
  obtain ⟨s, hs1, hs2, _⟩ := DataW.trod_string Tryz.underlying9 he
  have hb : (sgB.map fun b => (DataW.lit (.string b.data.toList) : DataW Unit))[i]? = some y.1 := by
    rw [hx1, List.getElem?_map, hy]
    rfl
  rw [hs2, List.getElem?_map] at hb
  obtain ⟨b, hb1, hb2⟩ := Option.map_eq_some_iff.1 hb
  injection hb2 with hb2
  injection hb2 with hb2
  have hbs : b = s := by
    apply ByteArray.ext
    exact Array.toList_inj.1 hb2
  have hc : cs[i]? = some (.string s) := by
    have h1 : (cs.toList.drop i)[0]? = some (.string s) := by
      have h2 : ((cs.toList.drop i).take 1)[0]? = some (.string s) := by rw [hs1]; rfl
      rw [List.getElem?_take, if_pos (by decide)] at h2
      exact h2
    rw [List.getElem?_drop, Nat.add_zero, Array.getElem?_toList] at h1
    exact h1
  refine (World.var?_cell gSg hvar i).trans (hc.trans ?_)
  rw [List.getD_eq_getElem?_getD, hb1, ← hbs]
  rfl
theorem tab_datum : (Rows.laid_internal_strconv_uint64pow10 : DataW Unit) = Lib.tabData .u64 Lib.pow10Tab := rfl
theorem tab_of {W : World} (h : laidMet Tryz.prog laidL W) : Lib.TabIs Tryz.prog W "internal/strconv.uint64pow10" .u64 Lib.pow10Tab := by
  obtain ⟨ps, hv, _, _⟩ := h
  obtain ⟨g, t, cs, fuel, p, hg, ht, hvar, hd⟩ := laid_mem hv mem_tab
  obtain rfl := Option.some.inj (gTab.symm.trans hg)
  obtain rfl := Option.some.inj (gTabT.symm.trans ht)
  rw [tab_datum] at hd
  have hc := Lib.cells_of_tab Tryz.underlying162 Tryz.underlying147 (by kernel_rfl) (by kernel_rfl) hd
  unfold Lib.TabIs
  rw [hvar, ← hc]
theorem mx_of {W : World} (h : W.ShapedOpen Tryz.prog) : MxAt W :=
  cell_of_shapedOpen_int (zero := #[.int .i64 0]) (t := 3) h (of_decide_eq_true (by kernel_rfl)) (by kernel_rfl) rfl (by kernel_rfl) (by kernel_rfl) Tryz.underlying3
theorem plainL : (laidL.all fun x => x.2.handleName?.isNone) = true := by kernel_rfl
theorem gs_of {W : World} (h : laidMetH Tryz.prog laidL W) (hs : W.ShapedOpen Tryz.prog) : Gs W := by
  rw [MakeChecks.laidMetH_plain _ _ _ plainL] at h
  exact ⟨⟨sg_of h, er_of h, mx_of hs⟩, tab_of h⟩
/-- a law whose call reads listed variables, in a world whose variables have their shapes; what came in is within reach -/
theorem handed_sized {H : Type} {enc : TypeId × Value → H} {C : Checked} {os : Os} {f : FuncId} {fn : Func} {s : ChangeSpec} {X : World → Array Value → Prop}
    (hX : ∀ (w w' : World) (args : Array Value), w.heap = w'.heap → X w args → X w' args)
    (own : ownKnob C.prog.godebug = none) (started : os.Started) (noInit : C.prog.inits.idxOf? f = none) (hfn : C.prog.funcs[f]? = some fn)
    (witness : ∃ (w : World) (tape : Tape) (i : Input), w.os = os ∧ (w.forCall tape i).Shaped C.prog ∧ i.vars = [] ∧ Input.okWide C.prog (w.forCall tape i) .any w.heap.size f i ∧
      ((s.pre enc C.prog fn [] false (w.forCall tape i).memory i.args ∧ X (w.forCall tape i).memory i.args) ∧ sizedMet enc C.prog fn (OpenSpec.ofChange s) false (w.forCall tape i).memory i.args) ∧ ({} : Assume).holds C.prog (lone (Frame.enter C.prog f i.args .normal) [] (w.forCall tape i)))
    (contract : ∀ (W : World) (base : Nat) (args : Array Value) (ds gs : List (DataW H)) (before : List MemPlace),
      (∀ (j : Nat) t v, fn.params[j]? = some t → args[j]? = some v → Value.okWide C.prog W .any base t v) →
      DataW.Whole enc C.prog fn.params.toList s.vars false W args.toList ds gs before →
      (∀ n ∈ DataW.weightsEach C.prog (fn.params.toList ++ (OpenSpec.ofChange s).bare.plain.varTypes C.prog) (ds ++ gs), n ≤ reachBytes) → X W args → W.ShapedOpen C.prog →
      Calls C.prog f args W fun e W' => ∃ v, e = .returned v ∧ s.post enc C.prog fn false true false false W args v W') :
    ReturnsInHanded {} C os f .any (fun w args => (s.pre enc C.prog fn [] false w args ∧ X w args) ∧ sizedMet enc C.prog fn (OpenSpec.ofChange s) false w args) (s.post enc C.prog fn false true false false) := by
  refine returnsInHanded_of_calls own started noInit witness fun w tape i _ hsh _ hok hpre _ => ?_
  obtain ⟨_, _, _, fn2, hfn2, _, _, _, _, hval⟩ := hok
  obtain rfl : fn2 = fn := Option.some.inj (hfn2.symm.trans hfn)
  obtain ⟨⟨_, hx⟩, ⟨_, ds, gs, before, hw, hall⟩⟩ := hpre
  refine (contract (w.forCall tape i) w.heap.size i.args ds gs before hval (DataW.Whole.of_heap (w' := w.forCall tape i) (by rfl) hw) (fun n hn => of_decide_eq_true (List.all_eq_true.1 hall n hn)) (hX _ _ _ (by rfl) hx) hsh).mono fun e W' ⟨v, he, hp⟩ => ?_
  subst he
  exact ChangeSpec.post_blind hp
theorem own : ownKnob Tryz.prog.godebug = none := by kernel_rfl
theorem laidOut : laidOutB Tryz.prog = true := by kernel_rfl
theorem laid_world (os : Os) (args : Array Value) : laidMetH Tryz.prog laidL ((World.laidAll Tryz.prog os laidL).forCall (fun _ _ => 0) ⟨#[], args, []⟩).memory := by
  rw [MakeChecks.laidMetH_plain _ _ _ plainL]
  exact laidMet_laidAll _ (by kernel_rfl) (by kernel_rfl)
end Go.Proofs.YtgmnojnalkhepaaGreatDoor
