/-
  A law's arguments opened: constraints, values and types as trees in memory, out of what the call's data say; their sizes out of what may be reached.
-/
import Derived.Test.YtecedbjkebdeaaaShM
import Derived.Deep.Slices
import Derived.Deep.MidRow
import Derived.ProofKit
import Derived.OpenShut
namespace Go.Proofs.Ytecedbjkebdeaaa
open Go.RowKit Go.ChangeShapes Go.WideShapes Go.Deep
set_option linter.unusedVariables false
set_option linter.unusedSimpArgs false
set_option maxRecDepth 100000

/-- what a datum weighs is within reach -/
def Light {H : Type} (t : TypeId) (d : DataW H) : Prop := ∀ n ∈ d.weights Try.prog t, n ≤ reachBytes
theorem light_all {H : Type} {e : TypeId} : ∀ {l : List (DataW H)}, (∀ n ∈ DataW.weightsAll Try.prog e l, n ≤ reachBytes) → ∀ d ∈ l, Light e d
  | [], _, d, hd => by cases hd
  | x :: r, h, d, hd => by
    simp only [DataW.weightsAll, List.mem_append] at h
    rcases List.mem_cons.1 hd with rfl | hd
    · exact fun n hn => h n (.inl hn)
    · exact light_all (fun n hn => h n (.inr hn)) d hd
theorem light_each {H : Type} : ∀ {ts : List TypeId} {l : List (DataW H)}, (∀ n ∈ DataW.weightsEach Try.prog ts l, n ≤ reachBytes) → ∀ (i : Nat) (t : TypeId) (d : DataW H), ts[i]? = some t → l[i]? = some d → Light t d
  | [], _, _, i, t, d, ht, _ => by simp at ht
  | _ :: _, [], _, i, t, d, _, hd => by simp at hd
  | t0 :: ts, x :: r, h, i, t, d, ht, hd => by
    simp only [DataW.weightsEach, List.mem_append] at h
    cases i with
    | zero =>
      simp at ht hd
      subst ht
      subst hd
      exact fun n hn => h n (.inl hn)
    | succ i =>
      simp at ht hd
      exact light_each (fun n hn => h n (.inr hn)) i t d ht hd
theorem open_str {H : Type} {enc : TypeId × Value → H} {W : World} {fuel : Nat} {t : TypeId} {cs : List Value} {x : DataW H × List MemPlace} (ht : Try.prog.underlying t = some .string)
    (h : DataW.trod enc Try.prog W 0 (fun _ => true) true fuel t cs = some x) (hl : Light t x.1) : ∃ s : ByteArray, cs = [.string s] ∧ s.size ≤ 140737488355328 := by
  obtain ⟨s, rfl, rfl, _⟩ := DataW.trod_string ht h
  refine ⟨s, rfl, ?_⟩
  have := hl s.data.toList.length (by simp [DataW.weights])
  have e : s.data.toList.length = s.size := Array.length_toList
  have hr : reachBytes = 140737488351232 := rfl
  omega
theorem open_struct {H : Type} {enc : TypeId × Value → H} {W : World} {fuel : Nat} {t : TypeId} {fs : Array Field} {cs : List Value} {x : DataW H × List MemPlace} (ht : Try.prog.underlying t = some (.struct fs))
    (h : DataW.trod enc Try.prog W 0 (fun _ => true) true fuel t cs = some x) (hl : Light t x.1) :
    ∃ n, fuel = n + 1 ∧ cs.length = Try.prog.cellsOf t ∧ ∀ (i : Nat) (f : Field), fs[i]? = some f → ∀ (ty : TypeId) (off : Nat), f.type = ty → f.offset = off →
      ∃ y, DataW.trod enc Try.prog W 0 (fun _ => true) true n ty ((cs.drop off).take (Try.prog.cellsOf ty)) = some y ∧ Light ty y.1 := by
  obtain ⟨xs, n, rfl, rfl, hlen, hxs, hf⟩ := DataW.trod_struct ht h
  refine ⟨n, rfl, hlen, fun i f hi ty off e1 e2 => ?_⟩
  subst e1
  subst e2
  have hil : i < xs.length := by
    have := (Array.getElem?_eq_some_iff.1 hi).1
    omega
  have he := hf i f hi
  rw [List.getElem?_eq_getElem hil] at he
  refine ⟨_, he, ?_⟩
  unfold Light at hl
  simp only [DataW.weights, ht] at hl
  refine light_each hl i f.type _ ?_ ?_
  · rw [List.getElem?_map, Array.getElem?_toList, hi]
    rfl
  · rw [List.getElem?_map, List.getElem?_eq_getElem hil]
    rfl
theorem open_row {H : Type} {enc : TypeId × Value → H} {W : World} {X : Type} (dflt : X) (cells : X → List Value) (In : X → Prop) (k : Nat) {t e : TypeId} (ht : Try.prog.underlying t = some (.slice e)) (hk : Try.prog.cellsOf e = k) (hk0 : 0 < k)
    (hby : 1 ≤ Try.prog.bytesOf e) {fuel : Nat} {cs : List Value} {x : DataW H × List MemPlace}
    (h : DataW.trod enc Try.prog W 0 (fun _ => true) true fuel t cs = some x) (hl : Light t x.1)
    (hin : ∀ (n : Nat) (cs' : List Value) (x' : DataW H × List MemPlace), fuel = n + 1 → DataW.trod enc Try.prog W 0 (fun _ => true) true n e cs' = some x' → Light e x'.1 → ∃ y : X, cs' = cells y ∧ In y) :
    ∃ (a : Option Addr) (n cap : Nat) (f : Nat → X), cs = [.slice a n cap] ∧ RowAt W.heap.size W a n cap k (fun i => cells (f i)) ∧ ∀ i, i < n → In (f i) := by
  rcases DataW.trod_slice ht h with ⟨rfl, _⟩ | ⟨a, len, cap, elems, rest, n, hfu, rfl, rfl, _, hlc, hm, hlen, hel, hsp, _⟩
  · exact ⟨none, 0, 0, fun _ => dflt, rfl, ⟨Nat.le_refl _, by decide, fun _ => ⟨rfl, rfl⟩, fun h => absurd h (by omega)⟩, fun i h => absurd h (by omega)⟩
  unfold Light at hl
  simp only [DataW.weights, ht, List.mem_cons, List.mem_append, List.length_map] at hl
  have hcap : cap ≤ 140737488355328 := by
    have h1 := hl _ (.inl rfl)
    have h2 := (hsp rfl).1
    have hr : reachBytes = 140737488351232 := rfl
    have h3 : (elems.length + rest.length) * 1 ≤ (elems.length + rest.length) * Try.prog.bytesOf e := Nat.mul_le_mul_left _ hby
    omega
  have H0 : ∀ i, i < len → ∃ y : X, In y ∧ (cells y).length = k ∧ ∀ j u, (cells y)[j]? = some u → W.cell? ((a.add (i * k)).add j) = some u := by
    intro i hi
    have he := hel i hi
    rw [List.getElem?_eq_getElem (by omega)] at he
    obtain ⟨cs', h1, h2⟩ := Option.bind_eq_some_iff.1 he
    obtain ⟨y, rfl, hy⟩ := hin n cs' _ hfu h2 (light_all (l := elems.map (·.1)) (fun m hm => hl m (.inr (.inl hm))) _ (List.mem_map_of_mem (List.getElem_mem _)))
    rw [hk] at h1
    obtain ⟨_, hcl, hat⟩ := World.cells?_some h1
    refine ⟨y, hy, hcl, fun j u hj => ?_⟩
    have hj4 : j < k := by have := (List.getElem?_eq_some_iff.1 hj).1; omega
    rw [hat j hj4, hj]
  obtain ⟨f, hf⟩ : ∃ f : Nat → X, ∀ i, i < len → In (f i) ∧ (cells (f i)).length = k ∧ ∀ j u, (cells (f i))[j]? = some u → W.cell? ((a.add (i * k)).add j) = some u := by
    refine ⟨fun i => if h : i < len then Classical.choose (H0 i h) else dflt, fun i hi => ?_⟩
    simp only [dif_pos hi]
    exact Classical.choose_spec (H0 i hi)
  refine ⟨some a, len, cap, f, rfl, ⟨hlc, hcap, fun h => (by cases h), fun h0 => ?_⟩, fun i hi => (hf i hi).1⟩
  obtain ⟨g, o, sp⟩ := a
  obtain ⟨_, hl0, hc0⟩ := hf 0 h0
  have hx := hc0 0 _ (List.getElem?_eq_getElem (by omega))
  have hs : sp = none := by
    simp only [Nat.zero_mul, Addr.add, if_true] at hx
    unfold World.cell? at hx
    split at hx
    · simp at hx
      cases sp with
      | none => rfl
      | some _ => simp at hx
    · cases hx
  subst hs
  refine ⟨g, o, rfl, by have h9 := World.block_lt_of_cell? W _ hx; rw [Addr.add_mid, Addr.add_mid] at h9; exact h9, fun i hi j u hj => ?_⟩
  have := (hf i hi).2.2 j u hj
  rwa [Addr.add_mid, Addr.add_mid] at this

theorem i64_of {n : Int} (h : (Lit.int .i64 n).wf = true) : I64 n := by
  simp [Lit.wf, IntKind.min, IntKind.max, IntKind.signed, IntKind.bits] at h
  unfold I64
  omega
theorem kInt : Try.prog.cellsOf 3 = 1 := by kernel_rfl
theorem kBool : Try.prog.cellsOf 4 = 1 := by kernel_rfl
theorem kStr : Try.prog.cellsOf 9 = 1 := by kernel_rfl
theorem kStrs : Try.prog.cellsOf 31 = 1 := by kernel_rfl
theorem kCon : Try.prog.cellsOf 30 = 6 := by kernel_rfl
theorem kCons : Try.prog.cellsOf 28 = 1 := by kernel_rfl
theorem kVal : Try.prog.cellsOf 92 = 5 := by kernel_rfl
theorem kVals : Try.prog.cellsOf 40 = 1 := by kernel_rfl
theorem kTyp : Try.prog.cellsOf 35 = 15 := by kernel_rfl
theorem kTyps : Try.prog.cellsOf 33 = 1 := by kernel_rfl
theorem kPart : Try.prog.cellsOf 42 = 18 := by kernel_rfl
theorem kParts : Try.prog.cellsOf 32 = 1 := by kernel_rfl

section
variable {H : Type} {enc : TypeId × Value → H} {W : World}
theorem open_i {fuel : Nat} {cs : List Value} {x : DataW H × List MemPlace} (h : DataW.trod enc Try.prog W 0 (fun _ => true) true fuel 3 cs = some x) : ∃ n : Int, cs = [.int .i64 n] ∧ I64 n := by
  obtain ⟨n, rfl, _, hw⟩ := DataW.trod_int Try.underlying3 h
  exact ⟨n, rfl, i64_of hw⟩
theorem open_b {fuel : Nat} {cs : List Value} {x : DataW H × List MemPlace} (h : DataW.trod enc Try.prog W 0 (fun _ => true) true fuel 4 cs = some x) : ∃ b : Bool, cs = [.bool b] := by
  obtain ⟨b, rfl, _⟩ := DataW.trod_bool Try.underlying4 h
  exact ⟨b, rfl⟩
theorem open_sl {fuel : Nat} {cs : List Value} {x : DataW H × List MemPlace} (h : DataW.trod enc Try.prog W 0 (fun _ => true) true fuel 31 cs = some x) (hl : Light 31 x.1) :
    ∃ s : SL, cs = [s.v] ∧ SLIn W.heap.size W s := by
  obtain ⟨a, n, cap, f, rfl, h1, h2⟩ := open_row (W := W) ByteArray.empty (fun s => [.string s]) (fun s => s.size ≤ 140737488355328) 1 Try.underlying31 kStr (by decide) (by decide +kernel) h hl
    (fun n cs' x' _ h' hl' => open_str Try.underlying9 h' hl')
  exact ⟨⟨a, n, cap, f⟩, rfl, h1, h2⟩
theorem open_con : ∀ (fuel : Nat) {cs : List Value} {x : DataW H × List MemPlace}, DataW.trod enc Try.prog W 0 (fun _ => true) true fuel 30 cs = some x → Light 30 x.1 → ∃ c : CT, cs = c.cells ∧ CIn W.heap.size W c := by
  intro fuel
  induction fuel using Nat.strongRecOn with
  | ind fuel ih =>
    intro cs x h hl
    obtain ⟨n, rfl, hlen, hf⟩ := open_struct Try.underlying30 h hl
    rw [kCon] at hlen
    match cs, hlen with
    | [c0, c1, c2, c3, c4, c5], _ =>
      obtain ⟨y0, f0, _⟩ := hf 0 _ rfl 3 0 rfl rfl
      obtain ⟨y1, f1, _⟩ := hf 1 _ rfl 3 1 rfl rfl
      obtain ⟨y2, f2, _⟩ := hf 2 _ rfl 3 2 rfl rfl
      obtain ⟨y3, f3, _⟩ := hf 3 _ rfl 4 3 rfl rfl
      obtain ⟨y4, f4, _⟩ := hf 4 _ rfl 4 4 rfl rfl
      obtain ⟨y5, f5, l5⟩ := hf 5 _ rfl 28 5 rfl rfl
      simp only [kInt, kBool, kCons, List.drop_zero, List.drop_succ_cons, List.take_succ_cons, List.take_zero] at f0 f1 f2 f3 f4 f5
      obtain ⟨a0, e0, w0⟩ := open_i f0
      obtain ⟨a1, e1, w1⟩ := open_i f1
      obtain ⟨a2, e2, w2⟩ := open_i f2
      obtain ⟨a3, e3⟩ := open_b f3
      obtain ⟨a4, e4⟩ := open_b f4
      obtain ⟨a, m, cap, ch, e5, hr, hc⟩ := open_row (W := W) CT.nil CT.cells (fun c => CIn W.heap.size W c) 6 Try.underlying28 kCon (by decide) (by decide +kernel) f5 l5
        (fun k cs' x' hk h' hl' => ih k (by omega) h' hl')
      simp only [List.cons.injEq, and_true] at e0 e1 e2 e3 e4 e5
      subst e0; subst e1; subst e2; subst e3; subst e4; subst e5
      exact ⟨.mk a0 a1 a2 a3 a4 a m cap ch, rfl, ⟨w0, w1, w2⟩, hr, hc⟩
theorem open_val : ∀ (fuel : Nat) {cs : List Value} {x : DataW H × List MemPlace}, DataW.trod enc Try.prog W 0 (fun _ => true) true fuel 92 cs = some x → Light 92 x.1 → ∃ c : VT, cs = c.cells ∧ VIn W.heap.size W c := by
  intro fuel
  induction fuel using Nat.strongRecOn with
  | ind fuel ih =>
    intro cs x h hl
    obtain ⟨n, rfl, hlen, hf⟩ := open_struct Try.underlying92 h hl
    rw [kVal] at hlen
    match cs, hlen with
    | [c0, c1, c2, c3, c4], _ =>
      obtain ⟨y0, f0, _⟩ := hf 0 _ rfl 3 0 rfl rfl
      obtain ⟨y1, f1, _⟩ := hf 1 _ rfl 3 1 rfl rfl
      obtain ⟨y2, f2, l2⟩ := hf 2 _ rfl 9 2 rfl rfl
      obtain ⟨y3, f3, l3⟩ := hf 3 _ rfl 31 3 rfl rfl
      obtain ⟨y4, f4, l4⟩ := hf 4 _ rfl 40 4 rfl rfl
      simp only [kInt, kStr, kStrs, kVals, List.drop_zero, List.drop_succ_cons, List.take_succ_cons, List.take_zero] at f0 f1 f2 f3 f4
      obtain ⟨a0, e0, w0⟩ := open_i f0
      obtain ⟨a1, e1, w1⟩ := open_i f1
      obtain ⟨a2, e2, w2⟩ := open_str Try.underlying9 f2 l2
      obtain ⟨a3, e3, w3⟩ := open_sl f3 l3
      obtain ⟨a, m, cap, ch, e4, hr, hc⟩ := open_row (W := W) VT.nil VT.cells (fun c => VIn W.heap.size W c) 5 Try.underlying40 kVal (by decide) (by decide +kernel) f4 l4
        (fun k cs' x' hk h' hl' => ih k (by omega) h' hl')
      simp only [List.cons.injEq, and_true] at e0 e1 e2 e3 e4
      subst e0; subst e1; subst e2; subst e3; subst e4
      exact ⟨.mk a0 a1 a2 a3 a m cap ch, rfl, ⟨w0, w1, w2, w3⟩, hr, hc⟩
theorem open_dl {fuel : Nat} {cs : List Value} {x : DataW H × List MemPlace} (h : DataW.trod enc Try.prog W 0 (fun _ => true) true fuel 40 cs = some x) (hl : Light 40 x.1) :
    ∃ d : DL, cs = [d.v] ∧ DLIn W.heap.size W d := by
  obtain ⟨a, n, cap, f, rfl, h1, h2⟩ := open_row (W := W) VT.nil VT.cells (fun c => VIn W.heap.size W c) 5 Try.underlying40 kVal (by decide) (by decide +kernel) h hl
    (fun n cs' x' _ h' hl' => open_val n h' hl')
  exact ⟨⟨a, n, cap, f⟩, rfl, h1, h2⟩
/-- a part, its type opened by what is handed -/
theorem open_part {fuel : Nat} {cs : List Value} {x : DataW H × List MemPlace} (h : DataW.trod enc Try.prog W 0 (fun _ => true) true fuel 42 cs = some x) (hl : Light 42 x.1)
    (ih : ∀ (n : Nat) {cs : List Value} {x : DataW H × List MemPlace}, n < fuel → DataW.trod enc Try.prog W 0 (fun _ => true) true n 35 cs = some x → Light 35 x.1 → ∃ c : TT, cs = c.cells ∧ TIn W.heap.size W c) :
    ∃ y : PD × TT, cs = pcells y.1 y.2 ∧ PDIn W.heap.size W y.1 ∧ TIn W.heap.size W y.2 := by
  obtain ⟨n, rfl, hlen, hf⟩ := open_struct Try.underlying42 h hl
  rw [kPart] at hlen
  match cs, hlen with
  | [c0, c1, c2, c3, c4, c5, c6, c7, c8, c9, c10, c11, c12, c13, c14, c15, c16, c17], _ =>
    obtain ⟨y0, f0, l0⟩ := hf 0 _ rfl 9 0 rfl rfl
    obtain ⟨y1, f1, l1⟩ := hf 1 _ rfl 35 1 rfl rfl
    obtain ⟨y2, f2, _⟩ := hf 2 _ rfl 4 16 rfl rfl
    obtain ⟨y3, f3, l3⟩ := hf 3 _ rfl 40 17 rfl rfl
    simp only [kStr, kTyp, kBool, kVals, List.drop_zero, List.drop_succ_cons, List.take_succ_cons, List.take_zero] at f0 f1 f2 f3
    obtain ⟨a0, e0, w0⟩ := open_str Try.underlying9 f0 l0
    obtain ⟨t, e1, w1⟩ := ih n (by omega) f1 l1
    obtain ⟨a2, e2⟩ := open_b f2
    obtain ⟨d, e3, w3⟩ := open_dl f3 l3
    simp only [List.cons.injEq, and_true] at e0 e2 e3
    subst e0; subst e2; subst e3
    refine ⟨(⟨a0, a2, d⟩, t), ?_, ⟨w0, w3⟩, w1⟩
    unfold pcells
    rw [← e1]
    rfl
theorem open_type : ∀ (fuel : Nat) {cs : List Value} {x : DataW H × List MemPlace}, DataW.trod enc Try.prog W 0 (fun _ => true) true fuel 35 cs = some x → Light 35 x.1 → ∃ c : TT, cs = c.cells ∧ TIn W.heap.size W c := by
  intro fuel
  induction fuel using Nat.strongRecOn with
  | ind fuel ih =>
    intro cs x h hl
    obtain ⟨n, rfl, hlen, hf⟩ := open_struct Try.underlying35 h hl
    rw [kTyp] at hlen
    match cs, hlen with
    | [c0, c1, c2, c3, c4, c5, c6, c7, c8, c9, c10, c11, c12, c13, c14], _ =>
      obtain ⟨y0, f0, l0⟩ := hf 0 _ rfl 3 0 rfl rfl
      obtain ⟨y1, f1, l1⟩ := hf 1 _ rfl 9 1 rfl rfl
      obtain ⟨y2, f2, l2⟩ := hf 2 _ rfl 30 2 rfl rfl
      obtain ⟨y3, f3, l3⟩ := hf 3 _ rfl 4 8 rfl rfl
      obtain ⟨y4, f4, l4⟩ := hf 4 _ rfl 9 9 rfl rfl
      obtain ⟨y5, f5, l5⟩ := hf 5 _ rfl 31 10 rfl rfl
      obtain ⟨y6, f6, l6⟩ := hf 6 _ rfl 31 11 rfl rfl
      obtain ⟨y7, f7, l7⟩ := hf 7 _ rfl 32 12 rfl rfl
      obtain ⟨y8, f8, l8⟩ := hf 8 _ rfl 32 13 rfl rfl
      obtain ⟨y9, f9, l9⟩ := hf 9 _ rfl 33 14 rfl rfl
      simp only [kInt, kStr, kCon, kBool, kStrs, kParts, kTyps, List.drop_zero, List.drop_succ_cons, List.take_succ_cons, List.take_zero] at f0 f1 f2 f3 f4 f5 f6 f7 f8 f9
      obtain ⟨a0, e0, w0⟩ := open_i f0
      obtain ⟨a1, e1, w1⟩ := open_str Try.underlying9 f1 l1
      obtain ⟨c, e2, w2⟩ := open_con n f2 l2
      obtain ⟨a3, e3⟩ := open_b f3
      obtain ⟨a4, e4, w4⟩ := open_str Try.underlying9 f4 l4
      obtain ⟨a5, e5, w5⟩ := open_sl f5 l5
      obtain ⟨a6, e6, w6⟩ := open_sl f6 l6
      have hpart : ∀ (k : Nat) (cs' : List Value) (x' : DataW H × List MemPlace), n = k + 1 → DataW.trod enc Try.prog W 0 (fun _ => true) true k 42 cs' = some x' → Light 42 x'.1 →
          ∃ y : PD × TT, cs' = pcells y.1 y.2 ∧ (PDIn W.heap.size W y.1 ∧ TIn W.heap.size W y.2) := fun k cs' x' hk h' hl' => open_part h' hl' (fun m _ _ hm => ih m (by omega))
      obtain ⟨pa, pn, pc, pf, e7, hpr, hp⟩ := open_row (W := W) ((⟨ByteArray.empty, false, ⟨none, 0, 0, fun _ => .nil⟩⟩, .nil) : PD × TT) (fun y => pcells y.1 y.2) (fun y => PDIn W.heap.size W y.1 ∧ TIn W.heap.size W y.2) 18 Try.underlying32 kPart (by decide) (by decide +kernel) f7 l7 hpart
      obtain ⟨aa, an, ac, af, e8, har, ha⟩ := open_row (W := W) ((⟨ByteArray.empty, false, ⟨none, 0, 0, fun _ => .nil⟩⟩, .nil) : PD × TT) (fun y => pcells y.1 y.2) (fun y => PDIn W.heap.size W y.1 ∧ TIn W.heap.size W y.2) 18 Try.underlying32 kPart (by decide) (by decide +kernel) f8 l8 hpart
      obtain ⟨ea, en, ec, ef, e9, her, he⟩ := open_row (W := W) TT.nil TT.cells (fun c => TIn W.heap.size W c) 15 Try.underlying33 kTyp (by decide) (by decide +kernel) f9 l9
        (fun k cs' x' hk h' hl' => ih k (by omega) h' hl')
      simp only [List.cons.injEq, and_true] at e0 e1 e3 e4 e5 e6 e7 e8 e9
      subst e0; subst e1; subst e3; subst e4; subst e5; subst e6; subst e7; subst e8; subst e9
      refine ⟨.mk a0 a1 c a3 a4 a5 a6 ⟨pa, pn, pc, fun i => (pf i).1⟩ (fun i => (pf i).2) ⟨aa, an, ac, fun i => (af i).1⟩ (fun i => (af i).2) ea en ec ef, ?_, ⟨w0, w1, w2, w4, w5, w6⟩, ⟨hpr, hp⟩, ⟨har, ha⟩, ⟨her, he⟩⟩
      simp only [TT.cells]
      rw [← e2]
      rfl
end
end Go.Proofs.Ytecedbjkebdeaaa
