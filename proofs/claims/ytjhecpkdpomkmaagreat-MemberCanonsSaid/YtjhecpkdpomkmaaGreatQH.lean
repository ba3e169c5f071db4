/-
  A bundle of texts, one behind the other: BdS, BdF, SpB, BdW, ShO, BdX, BdP, BdY, BdT2.
-/
import Derived.Test.YtjhecpkdpomkmaaGreatQF
import Derived.Test.YtjhecpkdpomkmaaGreatQGA
import Derived.Test.YtjhecpkdpomkmaaGreatQA
import Derived.Deep.Slices
import Derived.ProofKit
import Derived.OpenShut
import Derived.Deep.MidRow
import Derived.Test.YtjhecpkdpomkmaaGreatRows
namespace Go.Proofs.YtjhecpkdpomkmaaGreat
open Go.RowKit Go.Shelf
set_option linter.unusedVariables false
set_option linter.unusedSimpArgs false
set_option maxRecDepth 100000

theorem AnsO.cast {base : Nat} {w : World} {v : Value} {p q : Int → Prop} {K L : Nat} {r : List Rg} (h : AnsO base w v p K r) (hpq : ∀ n, I64 n → (p n ↔ q n)) (hK : K ≤ L) : AnsO base w v q L r := ⟨h.1, ⟨h.2.1.1, h.2.1.2.1, fun n hn => (h.2.1.2.2 n hn).trans (hpq n hn)⟩, Nat.le_trans h.2.2 hK⟩
set_option maxHeartbeats 4000000 in
theorem Set_ok (c : CT) (B : Nat) (w : World) (vp : Value) (P : List Rg) (hc : CIn B w c) (hB : B ≤ w.heap.size) (hp : RSl w vp P) (hsz : 2 * c.sz ≤ 1000) (hl : P.length ≤ 1000) :
    Calls Tryz.prog 232 #[c.v, vp] w fun e w' => ∃ v r, e = .returned v ∧ Ans w' v (fun x => mem P x ∧ adm c 40 x = true) 2000 r ∧ Below w.heap.size w w' := by
  have HA := Lib.hid (admitted_ok c 40 (Nat.le_refl _) hsz)
  obtain ⟨op, lo, hi, low, high, a, n, cap, ch, rfl⟩ := hc.open
  obtain ⟨sp, cp, rfl⟩ := hp.shape
  have HB0 := Lib.hid ((Below.refl w.heap.size w).alloc (Nat.le_refl _) (.cells #[.int .i64 op, .int .i64 lo, .int .i64 hi, .bool low, .bool high, .slice a n cap] 200))
  have HC := Lib.hid (HA.out w.heap.size _ ((hc.below (Below.refl _ _) hB).below HB0.out (Nat.le_refl _)) HB0.out.size)
  have HV := Lib.hid hp
  have HL := Lib.hid hl
  have HSZ := Lib.hid hsz
  have HFIN := Lib.hid (show ∀ (w' : World) (v : Value) (ra r : List Rg), (∀ x, I64 x → (mem ra x ↔ adm (CT.mk op lo hi low high a n cap ch) 40 x = true)) → ra.length ≤ 1000 → ∀ base, AnsO base w' v (fun x => mem P x ∧ mem ra x) (P.length + ra.length) r → Ans w' v (fun x => mem P x ∧ adm (CT.mk op lo hi low high a n cap ch) 40 x = true) 2000 r from fun w' v ra r e1 e2 base h => (h.cast (fun x hx => and_congr Iff.rfl (e1 x hx)) (by omega)).ans)
  simp only [CT.v, CT.cells] at HC ⊢
  generalize (fun x => mem P x ∧ adm (CT.mk op lo hi low high a n cap ch) 40 x = true) = p at *
  obtain ⟨N, hN⟩ : ∃ N, P.length = N := ⟨_, rfl⟩
  have HN := Lib.hid hN
  rw [hN]
  rw [hN] at HV
  clear hc hB hp hsz hl HA hN
  go_enter Tryz.func232, Tryz.ntmps232
  go_wp2_with fail
  refine HC.out.mono ?_
  rintro e w1 ⟨va, ra, rfl, h1, h2⟩
  have HB1 := Lib.hid (HB0.out.trans (h2.mono HB0.out.size))
  have HA1 := Lib.hid h1
  have HM := Lib.hid (Meet_own w1 _ va P ra (HV.out.below HB1.out) h1.rsl (by have := HL.out; omega) (by have := h1.2.2.2; have := HSZ.out; omega))
  clear h1 h2 HC
  go_wp2_with fail
  refine HM.out.mono ?_
  rintro e w2 ⟨v, r, rfl, h1, h2⟩
  have HB2 := Lib.hid (HB1.out.trans (h2.mono HB1.out.size))
  have HF := Lib.hid (HFIN.out _ _ _ _ HA1.out.2.2.1 (by have := HA1.out.2.2.2; have := HSZ.out; omega) _ h1)
  clear h1 h2 HM
  go_wp2_with fail
  go_ret
  exact ⟨_, r, rfl, HF.out, HB2.out⟩
def sizeL : List Rg := [(0, 9223372036854775807)]
theorem sizeL_bd : Bd sizeL := by simp [sizeL, Bd, I64]
theorem sizeL_mem (x : Int) (h : I64 x) : mem sizeL x ↔ 0 ≤ x := by unfold I64 at h; unfold sizeL; rw [mem_one]; simp only; omega
set_option maxHeartbeats 1000000 in
theorem Size_ok (w : World) : Calls Tryz.prog 234 #[] w fun e w' => ∃ v', e = .returned v' ∧ RSl w' v' sizeL ∧ Below w.heap.size w w' := by
  have HR := Lib.hid (rsl_lit w sizeL sizeL_bd #[.int .i64 0, .int .i64 9223372036854775807] rfl 1 rfl)
  have HB := Lib.hid ((Below.refl w.heap.size w).alloc (Nat.le_refl _) (.cells #[.int .i64 0, .int .i64 9223372036854775807] 66))
  go_enter Tryz.func234, Tryz.ntmps234
  go_wp2_with fail
  go_ret
  exact ⟨_, rfl, HR.out, HB.out⟩
/-! ### the ends of a right list -/
set_option maxHeartbeats 4000000 in
theorem Ends_ok (w : World) (v : Value) (l : List Rg) (h : RSl w v l) (hl : l.length ≤ 10000) :
    Calls Tryz.prog 196 #[v] w fun e w' => ∃ r, e = .returned (.tuple #[.int .i64 (eLo r), .int .i64 (eHi r), .bool (eOk r)]) ∧ Says r (mem l) ∧ Below w.heap.size w w' := by
  have HC := Lib.hid (Norm_ok w v l h (by omega))
  have HLL := Lib.hid hl
  obtain ⟨sa, ca, rfl⟩ := h.shape
  clear h hl
  go_enter Tryz.func196, Tryz.ntmps196
  go_wp2_with fail
  refine HC.out.mono ?_
  rintro e w1 ⟨v1, r, rfl, h1, h2⟩
  have HB := Lib.hid h2
  have HS := Lib.hid h1.2.1
  have HK := Lib.hid (show r.length ≤ 100000 by have := h1.2.2; have := HLL.out; omega)
  rcases Nat.eq_zero_or_pos r.length with h0 | h0
  · obtain rfl : r = [] := List.length_eq_zero_iff.1 h0
    obtain ⟨s1, c1, rfl⟩ := h1.1.shape
    simp only [List.length_nil]
    clear h1 h2 h0 HC
    go_wp2_with fail
    go_ret3
    exact ⟨[], rfl, HS.out, HB.out⟩
  · obtain ⟨g, o, cap, rfl, hcap, hg, hd⟩ := h1.1.at h0
    obtain ⟨m, hm⟩ : ∃ m, r.length = m + 1 := ⟨r.length - 1, by omega⟩
    have HF := Lib.hid (show eLo r = r[0]!.1 ∧ eHi r = r[m]!.2 ∧ eOk r = true from ⟨by unfold eLo; rw [if_neg (by omega)], by unfold eHi; rw [if_neg (by omega), hm]; rfl, by unfold eOk; exact decide_eq_true h0⟩)
    have c1 := (hd 0 h0).1
    have c2 := (hd m (by omega)).2
    rw [hm] at hcap ⊢
    obtain ⟨x, hx⟩ : ∃ x, r[0]!.1 = x := ⟨_, rfl⟩
    obtain ⟨y, hy⟩ : ∃ y, r[m]!.2 = y := ⟨_, rfl⟩
    rw [hx] at c1 HF
    rw [hy] at c2 HF
    rw [Nat.zero_mul, Nat.add_zero] at c1
    have hm1 : m + 1 ≤ 100000 := by have := HK.out; rw [hm] at this; exact this
    have HD := Lib.hid hd
    clear h1 h2 hd hx hy hm HC h0 hg HK
    obtain ⟨N, hN⟩ : ∃ N, m + 1 = N := ⟨_, rfl⟩
    rw [hN] at hcap ⊢
    have q1 : IntKind.i64.wrap ((N : Int) - 1) = (m : Int) := (wrap_ok (by unfold I64; omega)).trans (by omega)
    have HQ := Lib.hid q1
    clear q1
    have x1 : (0 : Int) < (N : Int) := by omega
    have x1n : 0 < N := by omega
    have x2 : (m : Int) < (N : Int) := by omega
    have x2n : m < N := by omega
    have x3 : (0 : Int) ≤ (m : Int) := by omega
    have e0 : ((N : Int) == 0) = false := beq_false_of_ne (by omega)
    have e0n : (N == 0) = false := beq_false_of_ne (by omega)
    have q1 := HQ.out
    clear hN hm1
    go_wp2_with fail
    go_quiet (fail)
    go_wp2_with fail
    go_ret3
    refine ⟨r, ?_, HS.out, ⟨HB.out.os, HB.out.tape, HB.out.output, HB.out.size, HB.out.block⟩⟩
    rw [HF.out.1, HF.out.2.1, HF.out.2.2]
    rfl
set_option maxHeartbeats 4000000 in
theorem rEnds_ok (w : World) (v : Value) (l : List Rg) (h : RSl w v l) (hl : l.length ≤ 300) :
    Calls Tryz.prog 244 #[v] w fun e w' => ∃ r, e = .returned (.tuple #[.int .i64 (eLo r), .int .i64 (eHi r), .bool (eOk r)]) ∧ Says r (mem l) ∧ Below w.heap.size w w' := by
  have HC := Lib.hid (rNorm_ok w v l h (by omega))
  have HLL := Lib.hid hl
  obtain ⟨sa, ca, rfl⟩ := h.shape
  clear h hl
  go_enter Tryz.func244, Tryz.ntmps244
  go_wp2_with fail
  refine HC.out.mono ?_
  rintro e w1 ⟨v1, r, rfl, h1, h2⟩
  have HB := Lib.hid h2
  have HS := Lib.hid h1.2.1
  have HK := Lib.hid (show r.length ≤ 100000 by have := h1.2.2; have := HLL.out; omega)
  rcases Nat.eq_zero_or_pos r.length with h0 | h0
  · obtain rfl : r = [] := List.length_eq_zero_iff.1 h0
    obtain ⟨s1, c1, rfl⟩ := h1.1.shape
    simp only [List.length_nil]
    clear h1 h2 h0 HC
    go_wp2_with fail
    go_ret3
    exact ⟨[], rfl, HS.out, HB.out⟩
  · obtain ⟨g, o, cap, rfl, hcap, hg, hd⟩ := h1.1.at h0
    obtain ⟨m, hm⟩ : ∃ m, r.length = m + 1 := ⟨r.length - 1, by omega⟩
    have HF := Lib.hid (show eLo r = r[0]!.1 ∧ eHi r = r[m]!.2 ∧ eOk r = true from ⟨by unfold eLo; rw [if_neg (by omega)], by unfold eHi; rw [if_neg (by omega), hm]; rfl, by unfold eOk; exact decide_eq_true h0⟩)
    have c1 := (hd 0 h0).1
    have c2 := (hd m (by omega)).2
    rw [hm] at hcap ⊢
    obtain ⟨x, hx⟩ : ∃ x, r[0]!.1 = x := ⟨_, rfl⟩
    obtain ⟨y, hy⟩ : ∃ y, r[m]!.2 = y := ⟨_, rfl⟩
    rw [hx] at c1 HF
    rw [hy] at c2 HF
    rw [Nat.zero_mul, Nat.add_zero] at c1
    have hm1 : m + 1 ≤ 100000 := by have := HK.out; rw [hm] at this; exact this
    have HD := Lib.hid hd
    clear h1 h2 hd hx hy hm HC h0 hg HK
    obtain ⟨N, hN⟩ : ∃ N, m + 1 = N := ⟨_, rfl⟩
    rw [hN] at hcap ⊢
    have q1 : IntKind.i64.wrap ((N : Int) - 1) = (m : Int) := (wrap_ok (by unfold I64; omega)).trans (by omega)
    have HQ := Lib.hid q1
    clear q1
    have x1 : (0 : Int) < (N : Int) := by omega
    have x1n : 0 < N := by omega
    have x2 : (m : Int) < (N : Int) := by omega
    have x2n : m < N := by omega
    have x3 : (0 : Int) ≤ (m : Int) := by omega
    have e0 : ((N : Int) == 0) = false := beq_false_of_ne (by omega)
    have e0n : (N == 0) = false := beq_false_of_ne (by omega)
    have q1 := HQ.out
    clear hN hm1
    go_wp2_with fail
    go_quiet (fail)
    go_wp2_with fail
    go_ret3
    refine ⟨r, ?_, HS.out, ⟨HB.out.os, HB.out.tape, HB.out.output, HB.out.size, HB.out.block⟩⟩
    rw [HF.out.1, HF.out.2.1, HF.out.2.2]
    rfl
end Go.Proofs.YtjhecpkdpomkmaaGreat

namespace Go.Proofs.YtjhecpkdpomkmaaGreat
open Go.RowKit
set_option linter.unusedVariables false
set_option linter.unusedSimpArgs false
set_option maxRecDepth 100000

end Go.Proofs.YtjhecpkdpomkmaaGreat

namespace Go.Proofs.YtjhecpkdpomkmaaGreat
open Go.RowKit Go.Shelf Go.ChangeShapes Go.WideShapes Go.Deep
set_option linter.unusedVariables false
set_option linter.unusedSimpArgs false
set_option maxRecDepth 100000

/-! ### arguments -/
end Go.Proofs.YtjhecpkdpomkmaaGreat

namespace Go.Proofs.YtjhecpkdpomkmaaGreat
open Go.RowKit Go.Shelf
set_option linter.unusedVariables false
set_option linter.unusedSimpArgs false
set_option maxRecDepth 100000

theorem CIn.len {B : Nat} {W : World} {c : CT} (h : CIn B W c) : c.cells.length = 6 := by
  obtain ⟨op, lo, hi, low, high, a, n, cap, ch, rfl⟩ := h.open
  rfl
def sp1 (lo hi : Int) (low : Bool) : CT := .mk 1 lo hi low false none 0 0 (fun _ => .nil)
def exU (b : Nat) : CT := .mk 2 0 0 false false (some ⟨b, 0, none⟩) 2 2 (fun i => if i = 0 then sp1 0 7 false else sp1 9 9 false)
def exC (b c : Nat) : CT := .mk 4 0 0 false false (some ⟨c, 0, none⟩) 2 2 (fun i => if i = 0 then exU b else sp1 3 3 false)
def exL : List Rg := [(0, 2), (4, 7), (9, 9)]
end Go.Proofs.YtjhecpkdpomkmaaGreat

namespace Go.Proofs.YtjhecpkdpomkmaaGreat
open Go.RowKit Go.ChangeShapes Go.WideShapes Go.Deep
set_option linter.unusedVariables false
set_option linter.unusedSimpArgs false
set_option maxRecDepth 100000

/-- what a datum weighs is within reach -/
def Light {H : Type} (t : TypeId) (d : DataW H) : Prop := ∀ n ∈ d.weights Tryz.prog t, n ≤ reachBytes
theorem light_all {H : Type} {e : TypeId} : ∀ {l : List (DataW H)}, (∀ n ∈ DataW.weightsAll Tryz.prog e l, n ≤ reachBytes) → ∀ d ∈ l, Light e d
  | [], _, d, hd => by cases hd
  | x :: r, h, d, hd => by
    simp only [DataW.weightsAll, List.mem_append] at h
    rcases List.mem_cons.1 hd with rfl | hd
    · exact fun n hn => h n (.inl hn)
    · exact light_all (fun n hn => h n (.inr hn)) d hd
theorem light_each {H : Type} : ∀ {ts : List TypeId} {l : List (DataW H)}, (∀ n ∈ DataW.weightsEach Tryz.prog ts l, n ≤ reachBytes) → ∀ (i : Nat) (t : TypeId) (d : DataW H), ts[i]? = some t → l[i]? = some d → Light t d
  | [], _, _, i, t, d, ht, _ => by simp at ht
  | _ :: _, [], _, i, t, d, _, hd => by simp at hd
  | t0 :: ts, x :: r, h, i, t, d, ht, hd => by
    simp only [DataW.weightsEach, List.mem_append] at h
    cases i with
    | zero =>
      simp at ht hd
      subst ht
      subst hd
      exact fun n hn => h n (.inl hn)
    | succ i =>
      simp at ht hd
      exact light_each (fun n hn => h n (.inr hn)) i t d ht hd
theorem open_str {H : Type} {enc : TypeId × Value → H} {W : World} {fuel : Nat} {t : TypeId} {cs : List Value} {x : DataW H × List MemPlace} (ht : Tryz.prog.underlying t = some .string)
    (h : DataW.trod enc Tryz.prog W 0 (fun _ => true) true fuel t cs = some x) (hl : Light t x.1) : ∃ s : ByteArray, cs = [.string s] ∧ s.size ≤ 140737488355328 := by
  obtain ⟨s, rfl, rfl, _⟩ := DataW.trod_string ht h
  refine ⟨s, rfl, ?_⟩
  have := hl s.data.toList.length (by simp [DataW.weights])
  have e : s.data.toList.length = s.size := Array.length_toList
  have hr : reachBytes = 140737488351232 := rfl
  omega
theorem open_struct {H : Type} {enc : TypeId × Value → H} {W : World} {fuel : Nat} {t : TypeId} {fs : Array Field} {cs : List Value} {x : DataW H × List MemPlace} (ht : Tryz.prog.underlying t = some (.struct fs))
    (h : DataW.trod enc Tryz.prog W 0 (fun _ => true) true fuel t cs = some x) (hl : Light t x.1) :
    ∃ n, fuel = n + 1 ∧ cs.length = Tryz.prog.cellsOf t ∧ ∀ (i : Nat) (f : Field), fs[i]? = some f → ∀ (ty : TypeId) (off : Nat), f.type = ty → f.offset = off →
      ∃ y, DataW.trod enc Tryz.prog W 0 (fun _ => true) true n ty ((cs.drop off).take (Tryz.prog.cellsOf ty)) = some y ∧ Light ty y.1 := by
  obtain ⟨xs, n, rfl, rfl, hlen, hxs, hf⟩ := DataW.trod_struct ht h
  refine ⟨n, rfl, hlen, fun i f hi ty off e1 e2 => ?_⟩
  subst e1
  subst e2
  have hil : i < xs.length := by
    have := (Array.getElem?_eq_some_iff.1 hi).1
    omega
  have he := hf i f hi
  rw [List.getElem?_eq_getElem hil] at he
  refine ⟨_, he, ?_⟩
  unfold Light at hl
  simp only [DataW.weights, ht] at hl
  refine light_each hl i f.type _ ?_ ?_
  · rw [List.getElem?_map, Array.getElem?_toList, hi]
    rfl
  · rw [List.getElem?_map, List.getElem?_eq_getElem hil]
    rfl
theorem open_row {H : Type} {enc : TypeId × Value → H} {W : World} {X : Type} (dflt : X) (cells : X → List Value) (In : X → Prop) (k : Nat) {t e : TypeId} (ht : Tryz.prog.underlying t = some (.slice e)) (hk : Tryz.prog.cellsOf e = k) (hk0 : 0 < k)
    (hby : 1 ≤ Tryz.prog.bytesOf e) {fuel : Nat} {cs : List Value} {x : DataW H × List MemPlace}
    (h : DataW.trod enc Tryz.prog W 0 (fun _ => true) true fuel t cs = some x) (hl : Light t x.1)
    (hin : ∀ (n : Nat) (cs' : List Value) (x' : DataW H × List MemPlace), fuel = n + 1 → DataW.trod enc Tryz.prog W 0 (fun _ => true) true n e cs' = some x' → Light e x'.1 → ∃ y : X, cs' = cells y ∧ In y) :
    ∃ (a : Option Addr) (n cap : Nat) (f : Nat → X), cs = [.slice a n cap] ∧ RowAt W.heap.size W a n cap k (fun i => cells (f i)) ∧ ∀ i, i < n → In (f i) := by
  rcases DataW.trod_slice ht h with ⟨rfl, _⟩ | ⟨a, len, cap, elems, rest, n, hfu, rfl, rfl, _, hlc, hm, hlen, hel, hsp, _⟩
  · exact ⟨none, 0, 0, fun _ => dflt, rfl, ⟨Nat.le_refl _, by decide, fun _ => ⟨rfl, rfl⟩, fun h => absurd h (by omega)⟩, fun i h => absurd h (by omega)⟩
  unfold Light at hl
  simp only [DataW.weights, ht, List.mem_cons, List.mem_append, List.length_map] at hl
  have hcap : cap ≤ 140737488355328 := by
    have h1 := hl _ (.inl rfl)
    have h2 := (hsp rfl).1
    have hr : reachBytes = 140737488351232 := rfl
    have h3 : (elems.length + rest.length) * 1 ≤ (elems.length + rest.length) * Tryz.prog.bytesOf e := Nat.mul_le_mul_left _ hby
    omega
  have H0 : ∀ i, i < len → ∃ y : X, In y ∧ (cells y).length = k ∧ ∀ j u, (cells y)[j]? = some u → W.cell? ((a.add (i * k)).add j) = some u := by
    intro i hi
    have he := hel i hi
    rw [List.getElem?_eq_getElem (by omega)] at he
    obtain ⟨cs', h1, h2⟩ := Option.bind_eq_some_iff.1 he
    obtain ⟨y, rfl, hy⟩ := hin n cs' _ hfu h2 (light_all (l := elems.map (·.1)) (fun m hm => hl m (.inr (.inl hm))) _ (List.mem_map_of_mem (List.getElem_mem _)))
    rw [hk] at h1
    obtain ⟨_, hcl, hat⟩ := World.cells?_some h1
    refine ⟨y, hy, hcl, fun j u hj => ?_⟩
    have hj4 : j < k := by have := (List.getElem?_eq_some_iff.1 hj).1; omega
    rw [hat j hj4, hj]
  obtain ⟨f, hf⟩ : ∃ f : Nat → X, ∀ i, i < len → In (f i) ∧ (cells (f i)).length = k ∧ ∀ j u, (cells (f i))[j]? = some u → W.cell? ((a.add (i * k)).add j) = some u := by
    refine ⟨fun i => if h : i < len then Classical.choose (H0 i h) else dflt, fun i hi => ?_⟩
    simp only [dif_pos hi]
    exact Classical.choose_spec (H0 i hi)
  refine ⟨some a, len, cap, f, rfl, ⟨hlc, Nat.le_trans hlc hcap, fun h => (by cases h), fun h0 => ?_⟩, fun i hi => (hf i hi).1⟩
  obtain ⟨g, o, sp⟩ := a
  obtain ⟨_, hl0, hc0⟩ := hf 0 h0
  have hx := hc0 0 _ (List.getElem?_eq_getElem (by omega))
  have hs : sp = none := by
    simp only [Nat.zero_mul, Addr.add, if_true] at hx
    unfold World.cell? at hx
    split at hx
    · simp at hx
      cases sp with
      | none => rfl
      | some _ => simp at hx
    · cases hx
  subst hs
  refine ⟨g, o, rfl, by have h9 := World.block_lt_of_cell? W _ hx; rw [Addr.add_mid, Addr.add_mid] at h9; exact h9, fun i hi j u hj => ?_⟩
  have := (hf i hi).2.2 j u hj
  rwa [Addr.add_mid, Addr.add_mid] at this

theorem i64_of {n : Int} (h : (Lit.int .i64 n).wf = true) : I64 n := by
  simp [Lit.wf, IntKind.min, IntKind.max, IntKind.signed, IntKind.bits] at h
  unfold I64
  omega
theorem kInt : Tryz.prog.cellsOf 3 = 1 := by kernel_rfl
theorem kBool : Tryz.prog.cellsOf 4 = 1 := by kernel_rfl
theorem kStr : Tryz.prog.cellsOf 9 = 1 := by kernel_rfl
theorem kStrs : Tryz.prog.cellsOf 23 = 1 := by kernel_rfl
theorem kVal : Tryz.prog.cellsOf 26 = 5 := by kernel_rfl
theorem kVals : Tryz.prog.cellsOf 24 = 1 := by kernel_rfl
section
variable {H : Type} {enc : TypeId × Value → H} {W : World}
theorem open_i {fuel : Nat} {cs : List Value} {x : DataW H × List MemPlace} (h : DataW.trod enc Tryz.prog W 0 (fun _ => true) true fuel 3 cs = some x) : ∃ n : Int, cs = [.int .i64 n] ∧ I64 n := by
  obtain ⟨n, rfl, _, hw⟩ := DataW.trod_int Tryz.underlying3 h
  exact ⟨n, rfl, i64_of hw⟩
theorem open_b {fuel : Nat} {cs : List Value} {x : DataW H × List MemPlace} (h : DataW.trod enc Tryz.prog W 0 (fun _ => true) true fuel 4 cs = some x) : ∃ b : Bool, cs = [.bool b] := by
  obtain ⟨b, rfl, _⟩ := DataW.trod_bool Tryz.underlying4 h
  exact ⟨b, rfl⟩
theorem open_sl {fuel : Nat} {cs : List Value} {x : DataW H × List MemPlace} (h : DataW.trod enc Tryz.prog W 0 (fun _ => true) true fuel 23 cs = some x) (hl : Light 23 x.1) :
    ∃ s : SL, cs = [s.v] ∧ SLIn W.heap.size W s := by
  obtain ⟨a, n, cap, f, rfl, h1, h2⟩ := open_row (W := W) ByteArray.empty (fun s => [.string s]) (fun s => s.size ≤ 140737488355328) 1 Tryz.underlying23 kStr (by decide) (by decide +kernel) h hl
    (fun n cs' x' _ h' hl' => open_str Tryz.underlying9 h' hl')
  exact ⟨⟨a, n, cap, f⟩, rfl, h1, h2⟩
theorem open_val : ∀ (fuel : Nat) {cs : List Value} {x : DataW H × List MemPlace}, DataW.trod enc Tryz.prog W 0 (fun _ => true) true fuel 26 cs = some x → Light 26 x.1 → ∃ c : VT, cs = c.cells ∧ VIn W.heap.size W c := by
  intro fuel
  induction fuel using Nat.strongRecOn with
  | ind fuel ih =>
    intro cs x h hl
    obtain ⟨n, rfl, hlen, hf⟩ := open_struct Tryz.underlying26 h hl
    rw [kVal] at hlen
    match cs, hlen with
    | [c0, c1, c2, c3, c4], _ =>
      obtain ⟨y0, f0, _⟩ := hf 0 _ rfl 3 0 rfl rfl
      obtain ⟨y1, f1, _⟩ := hf 1 _ rfl 3 1 rfl rfl
      obtain ⟨y2, f2, l2⟩ := hf 2 _ rfl 9 2 rfl rfl
      obtain ⟨y3, f3, l3⟩ := hf 3 _ rfl 23 3 rfl rfl
      obtain ⟨y4, f4, l4⟩ := hf 4 _ rfl 24 4 rfl rfl
      simp only [kInt, kStr, kStrs, kVals, List.drop_zero, List.drop_succ_cons, List.take_succ_cons, List.take_zero] at f0 f1 f2 f3 f4
      obtain ⟨a0, e0, w0⟩ := open_i f0
      obtain ⟨a1, e1, w1⟩ := open_i f1
      obtain ⟨a2, e2, w2⟩ := open_str Tryz.underlying9 f2 l2
      obtain ⟨a3, e3, w3⟩ := open_sl f3 l3
      obtain ⟨a, m, cap, ch, e4, hr, hc⟩ := open_row (W := W) VT.nil VT.cells (fun c => VIn W.heap.size W c) 5 Tryz.underlying24 kVal (by decide) (by decide +kernel) f4 l4
        (fun k cs' x' hk h' hl' => ih k (by omega) h' hl')
      simp only [List.cons.injEq, and_true] at e0 e1 e2 e3 e4
      subst e0; subst e1; subst e2; subst e3; subst e4
      exact ⟨.mk a0 a1 a2 a3 a m cap ch, rfl, ⟨w0, w1, w2, w3⟩, hr, hc⟩
theorem open_dl {fuel : Nat} {cs : List Value} {x : DataW H × List MemPlace} (h : DataW.trod enc Tryz.prog W 0 (fun _ => true) true fuel 24 cs = some x) (hl : Light 24 x.1) :
    ∃ d : DL, cs = [d.v] ∧ DLIn W.heap.size W d := by
  obtain ⟨a, n, cap, f, rfl, h1, h2⟩ := open_row (W := W) VT.nil VT.cells (fun c => VIn W.heap.size W c) 5 Tryz.underlying24 kVal (by decide) (by decide +kernel) h hl
    (fun n cs' x' _ h' hl' => open_val n h' hl')
  exact ⟨⟨a, n, cap, f⟩, rfl, h1, h2⟩
end
end Go.Proofs.YtjhecpkdpomkmaaGreat

namespace Go.Proofs.YtjhecpkdpomkmaaGreat
open Go.RowKit Go.ChangeShapes Go.WideShapes Go.Deep
set_option linter.unusedVariables false
set_option linter.unusedSimpArgs false
set_option maxRecDepth 100000

/-! ### pure: the ends of a right list; levels that are enough -/
theorem allN_congr {f g : Nat → Bool} {n : Nat} (h : ∀ i, i < n → f i = g i) : allN f n = allN g n := by
  induction n with
  | zero => rfl
  | succ n ih => simp only [allN]; rw [ih (fun i hi => h i (by omega)), h n (by omega)]
theorem handed_light {H : Type} {enc : TypeId × Value → H} {a : Assume} {C : Checked} {os : Os} {f : FuncId} {fn : Func} {s : ChangeSpec} {conds : List PathCond} {apart fresh handsOn again : Bool}
    (own : ownKnob C.prog.godebug = none) (started : os.Started) (noInit : C.prog.inits.idxOf? f = none) (hfn : C.prog.funcs[f]? = some fn)
    (witness : ∃ (w : World) (tape : Tape) (i : Input), w.os = os ∧ (w.forCall tape i).Shaped C.prog ∧ i.vars = [] ∧ Input.okWide C.prog (w.forCall tape i) .any w.heap.size f i ∧
      s.pre6 enc C.prog fn conds apart (w.forCall tape i).memory i.args ∧ a.holds C.prog (lone (Frame.enter C.prog f i.args .normal) [] (w.forCall tape i)))
    (contract : ∀ (W : World) (base : Nat) (args : Array Value) (ds gs : List (DataW H)) (before : List MemPlace),
      (∀ (j : Nat) t v, fn.params[j]? = some t → args[j]? = some v → Value.okWide C.prog W .any base t v) →
      DataW.Whole enc C.prog fn.params.toList s.vars apart W args.toList ds gs before →
      (∀ n ∈ DataW.weightsEach C.prog (fn.params.toList ++ (OpenSpec.ofChange s).bare.plain.varTypes C.prog) (ds ++ gs), n ≤ reachBytes) →
      Calls C.prog f args W fun e W' => ∃ v, e = .returned v ∧ s.post enc C.prog fn apart fresh handsOn again W args v W') :
    ReturnsInHanded a C os f .any (s.pre6 enc C.prog fn conds apart) (s.post enc C.prog fn apart fresh handsOn again) := by
  refine returnsInHanded_of_calls own started noInit witness fun w tape i _ _ _ hok hpre _ => ?_
  obtain ⟨_, _, _, fn2, hfn2, _, _, _, _, hval⟩ := hok
  obtain rfl : fn2 = fn := Option.some.inj (hfn2.symm.trans hfn)
  obtain ⟨_, ⟨_, ds, gs, before, hw, hall⟩⟩ := hpre
  refine (contract (w.forCall tape i) w.heap.size i.args ds gs before hval (DataW.Whole.of_heap (w' := w.forCall tape i) (by rfl) hw) (fun n hn => of_decide_eq_true (List.all_eq_true.1 hall n hn))).mono fun e W' ⟨v, he, hp⟩ => ?_
  subst he
  exact ChangeSpec.post_blind hp
end Go.Proofs.YtjhecpkdpomkmaaGreat

namespace Go.Proofs.YtjhecpkdpomkmaaGreat
open Go.RowKit Go.Shelf
set_option linter.unusedVariables false
set_option linter.unusedSimpArgs false
set_option maxRecDepth 100000

/-! ### the end of a piece -/
def KInv (C : List Int) (x : Int) (k : Nat) (h : Int) : Prop := x ≤ h ∧ h ≤ 9223372036854775807 ∧ (∀ j, j < k → x < C[j]! → h < C[j]!) ∧ (h = 9223372036854775807 ∨ ∃ j, j < C.length ∧ C[j]! = h + 1)
theorem KInv.start (C : List Int) {x : Int} (hx : I64 x) : KInv C x 0 9223372036854775807 := ⟨hx.2, Int.le_refl _, fun j hj => absurd hj (Nat.not_lt_zero _), .inl rfl⟩
theorem KInv.yes {C : List Int} {x : Int} {k : Nat} {h z : Int} (hi : KInv C x k h) (hk : k < C.length) (hz : C[k]! = z) (h1 : x < z) (h2 : z - 1 < h) : KInv C x (k + 1) (z - 1) := by
  obtain ⟨a1, a2, a3, a4⟩ := hi
  refine ⟨by omega, by omega, fun j hj hx => ?_, .inr ⟨k, hk, by omega⟩⟩
  rcases Nat.lt_or_ge j k with hj2 | hj2
  · have := a3 j hj2 hx
    omega
  · obtain rfl : j = k := by omega
    omega
theorem KInv.no {C : List Int} {x : Int} {k : Nat} {h z : Int} (hi : KInv C x k h) (hz : C[k]! = z) (h1 : x < z → h < z) : KInv C x (k + 1) h := by
  obtain ⟨a1, a2, a3, a4⟩ := hi
  refine ⟨a1, a2, fun j hj hx => ?_, a4⟩
  rcases Nat.lt_or_ge j k with hj2 | hj2
  · exact a3 j hj2 hx
  · obtain rfl : j = k := by omega
    rw [hz] at hx ⊢
    exact h1 hx
/-! ### the pieces -/
def PInv (C : List Int) (p : Int → Bool) (i : Nat) (acc : List Rg) : Prop := Bd acc ∧ acc.length ≤ i ∧ (∀ n, mem acc n → p n = true) ∧ ∀ j, j < i → p C[j]! = true → ∀ n, I64 n → C[j]! ≤ n → (∀ k, k < C.length → C[j]! < C[k]! → n < C[k]!) → mem acc n
theorem PInv.start (C : List Int) (p : Int → Bool) : PInv C p 0 [] := ⟨Bd.nil, Nat.le_refl _, fun n h => absurd h mem_nil, fun j hj => absurd hj (Nat.not_lt_zero _)⟩
theorem PInv.no {C : List Int} {p : Int → Bool} {i : Nat} {acc : List Rg} {x : Int} (h : PInv C p i acc) (hx : C[i]! = x) (hp : p x = false) : PInv C p (i + 1) acc := by
  obtain ⟨a1, a2, a3, a4⟩ := h
  refine ⟨a1, by omega, a3, fun j hj hpj => ?_⟩
  rcases Nat.lt_or_ge j i with h2 | h2
  · exact a4 j h2 hpj
  · obtain rfl : j = i := by omega
    rw [hx, hp] at hpj
    cases hpj
theorem PInv.yes {C : List Int} {p : Int → Bool} {i : Nat} {acc : List Rg} {x e : Int} (h : PInv C p i acc) (hx : C[i]! = x) (hxi : I64 x) (hp : p x = true) (hk : KInv C x C.length e)
    (hc : ∀ x y, I64 x → I64 y → x ≤ y → (∀ k, k < C.length → ¬ (x < C[k]! ∧ C[k]! ≤ y)) → p x = p y) : PInv C p (i + 1) (acc ++ [(x, e)]) := by
  obtain ⟨a1, a2, a3, a4⟩ := h
  obtain ⟨b1, b2, b3, b4⟩ := hk
  have hei : I64 e := by unfold I64 at *; omega
  refine ⟨Bd.append.2 ⟨a1, Bd.cons.2 ⟨⟨hxi, hei⟩, Bd.nil⟩⟩, by simp; omega, fun n hn => ?_, fun j hj hpj n hn h1 h2 => ?_⟩
  · rcases mem_append.1 hn with h3 | h3
    · exact a3 n h3
    · have h4 := mem_one.1 h3
      simp only at h4
      rw [← hc x n hxi (by unfold I64 at *; omega) h4.1 (fun k hk h5 => by have := b3 k hk h5.1; omega)]
      exact hp
  · rcases Nat.lt_or_ge j i with h3 | h3
    · exact mem_append.2 (.inl (a4 j h3 hpj n hn h1 h2))
    · obtain rfl : j = i := by omega
      rw [hx] at h1 h2
      refine mem_append.2 (.inr (mem_one.2 ⟨h1, ?_⟩))
      show n ≤ e
      rcases b4 with h4 | ⟨k, hk, h4⟩
      · unfold I64 at hn; omega
      · have := h2 k hk (by omega)
        omega
theorem last_cut (n : Int) : ∀ (C : List Int), (∃ x ∈ C, x ≤ n) → ∃ x ∈ C, x ≤ n ∧ ∀ z ∈ C, z ≤ n → z ≤ x
  | [], h => by obtain ⟨x, hx, _⟩ := h; simp at hx
  | y :: C, h => by
    by_cases h1 : ∃ x ∈ C, x ≤ n
    · obtain ⟨x, hx, hn, hm⟩ := last_cut n C h1
      by_cases h2 : y ≤ n ∧ x < y
      · exact ⟨y, by simp, h2.1, fun z hz hzn => by
          rcases List.mem_cons.1 hz with rfl | hz
          · exact Int.le_refl _
          · have := hm z hz hzn; omega⟩
      · exact ⟨x, by simp [hx], hn, fun z hz hzn => by
          rcases List.mem_cons.1 hz with rfl | hz
          · omega
          · exact hm z hz hzn⟩
    · obtain ⟨x, hx, hn⟩ := h
      rcases List.mem_cons.1 hx with rfl | hx
      · exact ⟨x, by simp, hn, fun z hz hzn => by
          rcases List.mem_cons.1 hz with rfl | hz
          · exact Int.le_refl _
          · exact absurd ⟨z, hz, hzn⟩ h1⟩
      · exact absurd ⟨x, hx, hn⟩ h1
theorem PInv.done {C : List Int} {p : Int → Bool} {acc : List Rg} (h : PInv C p C.length acc) (hlow : (-9223372036854775808 : Int) ∈ C) (hb : ∀ z ∈ C, I64 z)
    (hc : ∀ x y, I64 x → I64 y → x ≤ y → (∀ k, k < C.length → ¬ (x < C[k]! ∧ C[k]! ≤ y)) → p x = p y) (n : Int) (hn : I64 n) : mem acc n ↔ p n = true := by
  refine ⟨h.2.2.1 n, fun hp => ?_⟩
  obtain ⟨x, hx, hxn, hm⟩ := last_cut n C ⟨_, hlow, by unfold I64 at hn; exact hn.1⟩
  obtain ⟨j, hj, rfl⟩ := List.mem_iff_getElem.1 hx
  have ej : C[j]! = C[j] := getElem!_pos C j hj
  have hlt : ∀ k, k < C.length → C[j]! < C[k]! → n < C[k]! := fun k hk h1 => by
    have h2 := hm C[k] (List.getElem_mem hk)
    rw [ej, getElem!_pos C k hk] at h1
    rw [getElem!_pos C k hk]
    apply Classical.byContradiction
    intro h3
    have := h2 (by omega)
    omega
  refine h.2.2.2 j hj ?_ n hn (by rw [ej]; exact hxn) hlt
  rw [ej, hc C[j] n (hb _ hx) hn hxn (fun k hk h1 => by
    have := hlt k hk (by rw [ej]; exact h1.1)
    omega)]
  exact hp
end Go.Proofs.YtjhecpkdpomkmaaGreat

namespace Go.Proofs.YtjhecpkdpomkmaaGreat
open Go.RowKit Go.Shelf
set_option linter.unusedVariables false
set_option linter.unusedSimpArgs false
set_option maxRecDepth 100000

def RelKY (wr0 : World) (C : List Int) (x : Int) (hv kv : Value) (wx : World) : Prop :=
  ∃ (k : Nat) (h : Int), k ≤ C.length ∧ kv = .int .i64 (k : Nat) ∧ hv = .int .i64 h ∧ KInv C x k h ∧ Below wr0.heap.size wr0 wx
def RelPS (w2 : World) (C : List Int) (p : Int → Bool) (ov iv : Value) (wr : World) : Prop :=
  ∃ (i : Nat) (acc : List Rg), i ≤ C.length ∧ iv = .int .i64 (i : Nat) ∧ OwnR w2.heap.size wr ov acc ∧ PInv C p i acc ∧ Below w2.heap.size w2 wr
end Go.Proofs.YtjhecpkdpomkmaaGreat

namespace Go.Proofs.YtjhecpkdpomkmaaGreat
open Go.RowKit Go.Shelf
set_option linter.unusedVariables false
set_option linter.unusedSimpArgs false
set_option maxRecDepth 100000

def TT.knd : TT → Int
  | .nil => 0
  | .mk kind .. => kind
def TT.cn : TT → CT
  | .nil => .nil
  | .mk _ _ con .. => con
def ofB (t : TT) : Bool := t.knd == 2 || isSz t.knd
def ofP (t : TT) (x : Int) : Prop := if t.knd = 2 then adm t.cn 40 x = true else if isSz t.knd = true then 0 ≤ x ∧ adm t.cn 40 x = true else False
theorem Ans.cast {w : World} {v : Value} {p q : Int → Prop} {K L : Nat} {r : List Rg} (h : Ans w v p K r) (hpq : ∀ n, I64 n → (p n ↔ q n)) (hK : K ≤ L) : Ans w v q L r :=
  ⟨h.1, ⟨h.2.1.1, h.2.1.2.1, fun n hn => (h.2.1.2.2 n hn).trans (hpq n hn)⟩, Nat.le_trans h.2.2 hK⟩
/-- the cells of a type that tell its kind and its constraint -/
theorem tcells_con {B : Nat} {W : World} {t : TT} (h : TIn B W t) : ∃ op lo hi lw hg ca cn cc cch, t.cn = CT.mk op lo hi lw hg ca cn cc cch ∧ CIn B W t.cn ∧
    t.cells[0]? = some (.int .i64 t.knd) ∧ t.cells[2]? = some (.int .i64 op) ∧ t.cells[3]? = some (.int .i64 lo) ∧ t.cells[4]? = some (.int .i64 hi) ∧ t.cells[5]? = some (.bool lw) ∧ t.cells[6]? = some (.bool hg) ∧ t.cells[7]? = some (.slice ca cn cc) := by
  obtain ⟨kd', tn', op', lo', hi', lw', hg', ca', cn', cc', cch', ext', fr', sa', sn', sc', sf', ma', mn', mc', mf', pa', pn', pc', pf', ptf', aa', an', ac', af', atf', ea', en', ec', etf', rfl⟩ := h.open
  exact ⟨op', lo', hi', lw', hg', ca', cn', cc', cch', rfl, h.1.2.2.1, rfl, rfl, rfl, rfl, rfl, rfl, rfl⟩
set_option maxHeartbeats 8000000 in
theorem Of_ok (t : TT) (B : Nat) (w : World) (ht : TIn B w t) (hB : B ≤ w.heap.size) (hsz : 2 * t.cn.sz ≤ 200) :
    Calls Tryz.prog 195 #[.agg t.cells.toArray] w fun e w' => ∃ v r, e = .returned (.tuple #[v, .bool (ofB t)]) ∧ Ans w' v (ofP t) 10000 r ∧ Below w.heap.size w w' := by
  obtain ⟨op, lo, hi, lw, hg, ca, cn, cc, cch, hcn, hci, e0, e2, e3, e4, e5, e6, e7⟩ := tcells_con ht
  have HCN := Lib.hid hcn
  have HCI := Lib.hid (show CIn w.heap.size w t.cn from hci.below (Below.refl _ _) hB)
  have hbx := Bx.new w t.cells.toArray 204
  have HX := Lib.hid hbx
  have hB0 := (Below.refl w.heap.size w).alloc (Nat.le_refl _) (.cells t.cells.toArray 204)
  have HB0 := Lib.hid hB0
  obtain ⟨kd, hkd⟩ : ∃ kd, t.knd = kd := ⟨_, rfl⟩
  have HKD := Lib.hid hkd
  have k0 := hbx.cell 0 (v := .int .i64 kd) (by rw [← hkd]; simpa using e0)
  have HS := Lib.hid (show ∀ w', Below (w.alloc (.cells t.cells.toArray 204)).heap.size (w.alloc (.cells t.cells.toArray 204)) w' → (w'.cell? ⟨w.heap.size, 2, none⟩ = some (.int .i64 op) ∧ w'.cell? ⟨w.heap.size, 3, none⟩ = some (.int .i64 lo) ∧ w'.cell? ⟨w.heap.size, 4, none⟩ = some (.int .i64 hi) ∧ w'.cell? ⟨w.heap.size, 5, none⟩ = some (.bool lw) ∧ w'.cell? ⟨w.heap.size, 6, none⟩ = some (.bool hg) ∧ w'.cell? ⟨w.heap.size, 7, none⟩ = some (.slice ca cn cc)) from fun w' hb =>
    have h := hbx.below hb hbx.lt
    ⟨h.cell 2 (by simpa using e2), h.cell 3 (by simpa using e3), h.cell 4 (by simpa using e4), h.cell 5 (by simpa using e5), h.cell 6 (by simpa using e6), h.cell 7 (by simpa using e7)⟩)
  have hcx := fun (w' : World) (vp : Value) (Q : List Rg) (hb : Below w.heap.size w w') (hp : RSl w' vp Q) (hl : Q.length ≤ 10) => Set_ok t.cn w.heap.size w' vp Q (HCI.out.below hb (Nat.le_refl _)) hb.size hp (by omega) (by omega)
  rw [show t.cn.v = .agg #[.int .i64 op, .int .i64 lo, .int .i64 hi, .bool lw, .bool hg, .slice ca cn cc] from by rw [hcn]; rfl] at hcx
  have HSET := Lib.hid hcx
  have HINT := Lib.hid (show kd = 2 → ∀ (w' : World) (v : Value) (r : List Rg) (K : Nat), K ≤ 10000 → Ans w' v (fun x => mem wholeL x ∧ adm t.cn 40 x = true) K r → Ans w' v (ofP t) 10000 r from fun h w' v r K hK ha => ha.cast (fun n hn => by
    unfold ofP
    rw [hkd, if_pos h, wholeL_says.2.2 n hn]
    simp) hK)
  have HSIZ := Lib.hid (show kd = 5 ∨ kd = 6 ∨ kd = 7 ∨ kd = 9 → ∀ (w' : World) (v : Value) (r : List Rg) (K : Nat), K ≤ 10000 → Ans w' v (fun x => mem sizeL x ∧ adm t.cn 40 x = true) K r → Ans w' v (ofP t) 10000 r from fun h w' v r K hK ha => ha.cast (fun n hn => by
    unfold ofP
    rw [hkd, if_neg (by omega), if_pos (by unfold isSz; rcases h with h | h | h | h <;> subst h <;> rfl), sizeL_mem n hn]) hK)
  have hob : ofB t = (kd == 2 || isSz kd) := by unfold ofB; rw [hkd]
  rw [hob]
  clear e0 e2 e3 e4 e5 e6 e7 ht hB hsz hcn hci hcx hkd hob hbx hB0
  by_cases h2 : kd = 2
  · subst h2
    rw [show ((2 : Int) == 2 || isSz 2) = true from rfl]
    go_enter Tryz.func195, Tryz.ntmps195
    go_wp2_with fail
    generalize w.alloc (.cells t.cells.toArray 204) = W at *
    clear k0
    have HBW := Lib.hid (Below.drew (Below.refl W.heap.size W))
    have HS0 := Lib.hid (HS.out _ HBW.out)
    go_region_held3 (fun w' => w'.cell? ⟨w.heap.size, 2, none⟩ = some (.int .i64 op) ∧ w'.cell? ⟨w.heap.size, 3, none⟩ = some (.int .i64 lo) ∧ w'.cell? ⟨w.heap.size, 4, none⟩ = some (.int .i64 hi) ∧ w'.cell? ⟨w.heap.size, 5, none⟩ = some (.bool lw) ∧ w'.cell? ⟨w.heap.size, 6, none⟩ = some (.bool hg) ∧ w'.cell? ⟨w.heap.size, 7, none⟩ = some (.slice ca cn cc)) (first | with_reducible exact HS2.out | with_reducible exact HS1.out | with_reducible exact HS0.out) (first
      | (go_at_call 233; (with_reducible refine (Whole_ok _).mono ?_); rintro e w1 ⟨vp, rfl, h1, h2⟩; have HBW1 := Lib.hid (HBW.out.trans (h2.mono HBW.out.size)); have HS1 := Lib.hid (HS.out _ HBW1.out); have HC1 := Lib.hid (HSET.out w1 vp wholeL (HB0.out.trans (HBW1.out.mono HB0.out.size)) h1 (by simp [wholeL])); clear h1 h2)
      | (go_at_call 232; (with_reducible refine HC1.out.mono ?_); rintro e w2 ⟨va, ra, rfl, h1, h2⟩; have HA := Lib.hid h1; have HBW2 := Lib.hid (HBW1.out.trans (h2.mono HBW1.out.size)); have HS2 := Lib.hid (HS.out _ HBW2.out); clear h1 h2))
    go_wp2_with fail
    go_ret2
    exact ⟨_, ra, rfl, HINT.out (by simp) _ _ _ _ (by decide) HA.out, HB0.out.trans (HBW2.out.mono HB0.out.size)⟩
  by_cases h5 : kd = 5
  · subst h5
    rw [show ((5 : Int) == 2 || isSz 5) = true from rfl]
    go_enter Tryz.func195, Tryz.ntmps195
    go_wp2_with fail
    generalize w.alloc (.cells t.cells.toArray 204) = W at *
    clear k0
    have HBW := Lib.hid (Below.drew (Below.refl W.heap.size W))
    have HS0 := Lib.hid (HS.out _ HBW.out)
    go_region_held3 (fun w' => w'.cell? ⟨w.heap.size, 2, none⟩ = some (.int .i64 op) ∧ w'.cell? ⟨w.heap.size, 3, none⟩ = some (.int .i64 lo) ∧ w'.cell? ⟨w.heap.size, 4, none⟩ = some (.int .i64 hi) ∧ w'.cell? ⟨w.heap.size, 5, none⟩ = some (.bool lw) ∧ w'.cell? ⟨w.heap.size, 6, none⟩ = some (.bool hg) ∧ w'.cell? ⟨w.heap.size, 7, none⟩ = some (.slice ca cn cc)) (first | with_reducible exact HS2.out | with_reducible exact HS1.out | with_reducible exact HS0.out) (first
      | (go_at_call 234; (with_reducible refine (Size_ok _).mono ?_); rintro e w1 ⟨vp, rfl, h1, h2⟩; have HBW1 := Lib.hid (HBW.out.trans (h2.mono HBW.out.size)); have HS1 := Lib.hid (HS.out _ HBW1.out); have HC1 := Lib.hid (HSET.out w1 vp sizeL (HB0.out.trans (HBW1.out.mono HB0.out.size)) h1 (by simp [sizeL])); clear h1 h2)
      | (go_at_call 232; (with_reducible refine HC1.out.mono ?_); rintro e w2 ⟨va, ra, rfl, h1, h2⟩; have HA := Lib.hid h1; have HBW2 := Lib.hid (HBW1.out.trans (h2.mono HBW1.out.size)); have HS2 := Lib.hid (HS.out _ HBW2.out); clear h1 h2))
    go_wp2_with fail
    go_ret2
    exact ⟨_, ra, rfl, HSIZ.out (by simp) _ _ _ _ (by decide) HA.out, HB0.out.trans (HBW2.out.mono HB0.out.size)⟩
  by_cases h6 : kd = 6
  · subst h6
    rw [show ((6 : Int) == 2 || isSz 6) = true from rfl]
    go_enter Tryz.func195, Tryz.ntmps195
    go_wp2_with fail
    generalize w.alloc (.cells t.cells.toArray 204) = W at *
    clear k0
    have HBW := Lib.hid (Below.drew (Below.refl W.heap.size W))
    have HS0 := Lib.hid (HS.out _ HBW.out)
    go_region_held3 (fun w' => w'.cell? ⟨w.heap.size, 2, none⟩ = some (.int .i64 op) ∧ w'.cell? ⟨w.heap.size, 3, none⟩ = some (.int .i64 lo) ∧ w'.cell? ⟨w.heap.size, 4, none⟩ = some (.int .i64 hi) ∧ w'.cell? ⟨w.heap.size, 5, none⟩ = some (.bool lw) ∧ w'.cell? ⟨w.heap.size, 6, none⟩ = some (.bool hg) ∧ w'.cell? ⟨w.heap.size, 7, none⟩ = some (.slice ca cn cc)) (first | with_reducible exact HS2.out | with_reducible exact HS1.out | with_reducible exact HS0.out) (first
      | (go_at_call 234; (with_reducible refine (Size_ok _).mono ?_); rintro e w1 ⟨vp, rfl, h1, h2⟩; have HBW1 := Lib.hid (HBW.out.trans (h2.mono HBW.out.size)); have HS1 := Lib.hid (HS.out _ HBW1.out); have HC1 := Lib.hid (HSET.out w1 vp sizeL (HB0.out.trans (HBW1.out.mono HB0.out.size)) h1 (by simp [sizeL])); clear h1 h2)
      | (go_at_call 232; (with_reducible refine HC1.out.mono ?_); rintro e w2 ⟨va, ra, rfl, h1, h2⟩; have HA := Lib.hid h1; have HBW2 := Lib.hid (HBW1.out.trans (h2.mono HBW1.out.size)); have HS2 := Lib.hid (HS.out _ HBW2.out); clear h1 h2))
    go_wp2_with fail
    go_ret2
    exact ⟨_, ra, rfl, HSIZ.out (by simp) _ _ _ _ (by decide) HA.out, HB0.out.trans (HBW2.out.mono HB0.out.size)⟩
  by_cases h7 : kd = 7
  · subst h7
    rw [show ((7 : Int) == 2 || isSz 7) = true from rfl]
    go_enter Tryz.func195, Tryz.ntmps195
    go_wp2_with fail
    generalize w.alloc (.cells t.cells.toArray 204) = W at *
    clear k0
    have HBW := Lib.hid (Below.drew (Below.refl W.heap.size W))
    have HS0 := Lib.hid (HS.out _ HBW.out)
    go_region_held3 (fun w' => w'.cell? ⟨w.heap.size, 2, none⟩ = some (.int .i64 op) ∧ w'.cell? ⟨w.heap.size, 3, none⟩ = some (.int .i64 lo) ∧ w'.cell? ⟨w.heap.size, 4, none⟩ = some (.int .i64 hi) ∧ w'.cell? ⟨w.heap.size, 5, none⟩ = some (.bool lw) ∧ w'.cell? ⟨w.heap.size, 6, none⟩ = some (.bool hg) ∧ w'.cell? ⟨w.heap.size, 7, none⟩ = some (.slice ca cn cc)) (first | with_reducible exact HS2.out | with_reducible exact HS1.out | with_reducible exact HS0.out) (first
      | (go_at_call 234; (with_reducible refine (Size_ok _).mono ?_); rintro e w1 ⟨vp, rfl, h1, h2⟩; have HBW1 := Lib.hid (HBW.out.trans (h2.mono HBW.out.size)); have HS1 := Lib.hid (HS.out _ HBW1.out); have HC1 := Lib.hid (HSET.out w1 vp sizeL (HB0.out.trans (HBW1.out.mono HB0.out.size)) h1 (by simp [sizeL])); clear h1 h2)
      | (go_at_call 232; (with_reducible refine HC1.out.mono ?_); rintro e w2 ⟨va, ra, rfl, h1, h2⟩; have HA := Lib.hid h1; have HBW2 := Lib.hid (HBW1.out.trans (h2.mono HBW1.out.size)); have HS2 := Lib.hid (HS.out _ HBW2.out); clear h1 h2))
    go_wp2_with fail
    go_ret2
    exact ⟨_, ra, rfl, HSIZ.out (by simp) _ _ _ _ (by decide) HA.out, HB0.out.trans (HBW2.out.mono HB0.out.size)⟩
  by_cases h9 : kd = 9
  · subst h9
    rw [show ((9 : Int) == 2 || isSz 9) = true from rfl]
    go_enter Tryz.func195, Tryz.ntmps195
    go_wp2_with fail
    generalize w.alloc (.cells t.cells.toArray 204) = W at *
    clear k0
    have HBW := Lib.hid (Below.drew (Below.refl W.heap.size W))
    have HS0 := Lib.hid (HS.out _ HBW.out)
    go_region_held3 (fun w' => w'.cell? ⟨w.heap.size, 2, none⟩ = some (.int .i64 op) ∧ w'.cell? ⟨w.heap.size, 3, none⟩ = some (.int .i64 lo) ∧ w'.cell? ⟨w.heap.size, 4, none⟩ = some (.int .i64 hi) ∧ w'.cell? ⟨w.heap.size, 5, none⟩ = some (.bool lw) ∧ w'.cell? ⟨w.heap.size, 6, none⟩ = some (.bool hg) ∧ w'.cell? ⟨w.heap.size, 7, none⟩ = some (.slice ca cn cc)) (first | with_reducible exact HS2.out | with_reducible exact HS1.out | with_reducible exact HS0.out) (first
      | (go_at_call 234; (with_reducible refine (Size_ok _).mono ?_); rintro e w1 ⟨vp, rfl, h1, h2⟩; have HBW1 := Lib.hid (HBW.out.trans (h2.mono HBW.out.size)); have HS1 := Lib.hid (HS.out _ HBW1.out); have HC1 := Lib.hid (HSET.out w1 vp sizeL (HB0.out.trans (HBW1.out.mono HB0.out.size)) h1 (by simp [sizeL])); clear h1 h2)
      | (go_at_call 232; (with_reducible refine HC1.out.mono ?_); rintro e w2 ⟨va, ra, rfl, h1, h2⟩; have HA := Lib.hid h1; have HBW2 := Lib.hid (HBW1.out.trans (h2.mono HBW1.out.size)); have HS2 := Lib.hid (HS.out _ HBW2.out); clear h1 h2))
    go_wp2_with fail
    go_ret2
    exact ⟨_, ra, rfl, HSIZ.out (by simp) _ _ _ _ (by decide) HA.out, HB0.out.trans (HBW2.out.mono HB0.out.size)⟩
  have z2 : (kd == 2) = false := beq_false_of_ne h2
  have z5 : (kd == 5) = false := beq_false_of_ne h5
  have z6 : (kd == 6) = false := beq_false_of_ne h6
  have z7 : (kd == 7) = false := beq_false_of_ne h7
  have z9 : (kd == 9) = false := beq_false_of_ne h9
  have hsz9 : isSz kd = false := by unfold isSz; rw [z5, z6, z7, z9]; rfl
  have HF := Lib.hid (show ∀ w', Ans w' (.slice none 0 0) (ofP t) 10000 [] from fun w' => ⟨RSl.nil w', ⟨rgt_nil, Bd.nil, fun n hn => by
    unfold ofP
    rw [HKD.out, if_neg h2, hsz9]
    simp [mem_nil]⟩, by simp⟩)
  rw [z2, hsz9, show (false || false) = false from rfl]
  clear h2 h5 h6 h7 h9 hsz9
  go_enter Tryz.func195, Tryz.ntmps195
  go_wp2_with fail
  go_ret2
  exact ⟨_, [], rfl, HF.out _, HB0.out⟩
end Go.Proofs.YtjhecpkdpomkmaaGreat
