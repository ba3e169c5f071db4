/-
  Package tags' laws: types of two parts, entries of one; 'same' (no walk but that).
-/
import Derived.Test.YtecedbjkebdeaaaTgOr2
namespace Go.Proofs.Ytecedbjkebdeaaa
open Go.RowKit Go.Maps Go.WideElems Go.ChangeMaps Go.MapKept Go.Shelf
set_option linter.unusedVariables false
set_option linter.unusedSimpArgs false
set_option maxRecDepth 100000

theorem lit_row {B : Nat} {W : World} {g n k : Nat} {cs : Array Value} {ty : TypeId} {cells : Nat → List Value} (h : Bx W g cs ty) (hB : g < B) (hn : n ≤ 140737488355328) (hc : ∀ i, i < n → ∃ r, cs.toList.drop (i * k) = cells i ++ r) :
    RowAt B W (some ⟨g, 0, none⟩) n n k cells := by
  refine ⟨Nat.le_refl _, hn, fun e => (by cases e), fun _ => ⟨g, 0, rfl, hB, fun i hi j u hj => ?_⟩⟩
  obtain ⟨r, hr⟩ := hc i hi
  have h1 : (cells i ++ r)[j]? = some u := by rw [List.getElem?_append_left (List.getElem?_eq_some_iff.1 hj).1]; exact hj
  rw [← hr, List.getElem?_drop] at h1
  rw [Nat.zero_add]
  exact h.cell (i * k + j) (by rw [← Array.getElem?_toList]; exact h1)
theorem no_row (B : Nat) (W : World) (k : Nat) (cells : Nat → List Value) : RowAt B W none 0 0 k cells := ⟨Nat.le_refl _, by omega, fun _ => ⟨rfl, rfl⟩, fun h => absurd h (by omega)⟩
def eS : SL := ⟨none, 0, 0, fun _ => ⟨#[]⟩⟩
theorem eS_in (B : Nat) (W : World) : SLIn B W eS := ⟨no_row B W 1 _, fun i h => absurd h (Nat.not_lt_zero i)⟩
def eD : DL := ⟨none, 0, 0, fun _ => .nil⟩
theorem eD_in (B : Nat) (W : World) : DLIn B W eD := ⟨no_row B W 5 _, fun i h => absurd h (Nat.not_lt_zero i)⟩
def eP : PL := ⟨none, 0, 0, fun _ => ⟨⟨#[]⟩, false, eD⟩⟩
def eC : CT := .mk 0 0 0 false false none 0 0 (fun _ => .nil)
theorem eC_in (B : Nat) (W : World) : CIn B W eC := ⟨by unfold I64; omega, no_row B W 6 _, fun i h => absurd h (Nat.not_lt_zero i)⟩
/-- a type without parts -/
def lfT (kd : Int) : TT := .mk kd ⟨#[]⟩ eC false ⟨#[]⟩ eS eS eP (fun _ => .nil) eP (fun _ => .nil) none 0 0 (fun _ => .nil)
theorem lf_in (B : Nat) (W : World) (kd : Int) (hk : I64 kd) : TIn B W (lfT kd) :=
  ⟨⟨hk, by decide, eC_in B W, by decide, eS_in B W, eS_in B W⟩, ⟨no_row B W 18 _, fun i h => absurd h (Nat.not_lt_zero i)⟩, ⟨no_row B W 18 _, fun i h => absurd h (Nat.not_lt_zero i)⟩, ⟨no_row B W 15 _, fun i h => absurd h (Nat.not_lt_zero i)⟩⟩
/-- a part without defaults -/
def pd (nm : ByteArray) (o : Bool) : PD := ⟨nm, o, eD⟩
/-- a type of two parts -/
def two (g : Nat) (kd : Int) (p q : PD) (t u : TT) : TT := .mk kd ⟨#[]⟩ eC false ⟨#[]⟩ eS eS ⟨some ⟨g, 0, none⟩, 2, 2, fun i => if i = 0 then p else q⟩ (fun i => if i = 0 then t else u) eP (fun _ => .nil) none 0 0 (fun _ => .nil)
theorem two_in {B : Nat} {W : World} {g : Nat} {kd : Int} {p q : PD} {t u : TT} {cs : Array Value} {ty : TypeId} (h : Bx W g cs ty) (hcs : cs.toList = pcells p t ++ pcells q u) (hg : g < B) (hk : I64 kd) (hp : PDIn B W p) (hq : PDIn B W q) (ht : TIn B W t) (hu : TIn B W u) : TIn B W (two g kd p q t u) := by
  refine ⟨⟨hk, by decide, eC_in B W, by decide, eS_in B W, eS_in B W⟩, ⟨lit_row h hg (by show 2 ≤ _; omega) (fun i hi => ?_), fun i hi => ⟨?_, ?_⟩⟩, ⟨no_row B W 18 _, fun i h => absurd h (Nat.not_lt_zero i)⟩, ⟨no_row B W 15 _, fun i h => absurd h (Nat.not_lt_zero i)⟩⟩
  · have hi : i < 2 := hi
    rw [hcs]
    match i, hi with
    | 0, _ => exact ⟨_, rfl⟩
    | 1, _ => exact ⟨[], by rw [List.append_nil]; exact List.drop_left' (one_pcells ht).1⟩
  · show PDIn B W (if i = 0 then p else q)
    split
    · exact hp
    · exact hq
  · show TIn B W (if i = 0 then t else u)
    split
    · exact ht
    · exact hu
theorem pd_in (B : Nat) (W : World) (nm : ByteArray) (o : Bool) (h : nm.size ≤ 140737488355328) : PDIn B W (pd nm o) := ⟨h, eD_in B W⟩
theorem two_alt (g : Nat) (kd : Int) (p q : PD) (t u : TT) : (two g kd p q t u).alt 0 = t ∧ (two g kd p q t u).alt 1 = u ∧ (two g kd p q t u).nal = 2 ∧ (two g kd p q t u).pn = 2 ∧ (two g kd p q t u).en = 0 ∧ (two g kd p q t u).kd = kd := ⟨rfl, rfl, rfl, rfl, rfl, rfl⟩
theorem two_sz (g : Nat) (kd : Int) (p q : PD) (t u : TT) : (two g kd p q t u).sz = 1 + (t.sz + u.sz) ∧ (two g kd p q t u).wid = 1 + (t.wid + u.wid) := by
  rw [TT.sz_eq, TT.wid_eq]
  show 1 + ((0 + t.sz + u.sz) + 0) = _ ∧ 1 + (0 + t.wid + u.wid) = _
  omega
/-- entries: one alone -/
def el1 (g : Nat) (e : ET) : EL := ⟨some ⟨g, 0, none⟩, 1, 1, fun _ => e⟩
theorem el1_ok {B : Nat} {W : World} {g : Nat} {e : ET} {cs : Array Value} {ty : TypeId} (h : Bx W g cs ty) (hcs : cs.toList = e.cells) (hg : g < B) (hm : e.mod.size ≤ 1000) (hn : e.name.size ≤ 1000) (ht : TIn B W e.t) : EOk B W (el1 g e) :=
  ⟨⟨lit_row h hg (by show 1 ≤ _; omega) (fun i hi => by
      have hi : i < 1 := hi
      obtain rfl : i = 0 := by omega
      exact ⟨[], by rw [hcs]; simp [el1]⟩), fun i hi => ⟨by show e.mod.size ≤ _; omega, by show e.name.size ≤ _; omega, ht⟩⟩, by show 1 ≤ _; omega, fun i hi => by show e.mod.size + e.name.size + 1 ≤ _; omega⟩
def el0 : EL := ⟨none, 0, 0, fun _ => ⟨⟨#[]⟩, ⟨#[]⟩, false, .nil⟩⟩
theorem el0_ok (B : Nat) (W : World) : EOk B W el0 := ⟨⟨no_row B W 18 _, fun i hi => absurd hi (Nat.not_lt_zero i)⟩, Nat.zero_le _, fun i hi => absurd hi (Nat.not_lt_zero i)⟩

/-! what lies apart -/
theorem rt_leaf {l : EL} {t : TT} (h1 : t.nal = 0) (h2 : t.en = 0) : Rt l t := by
  rw [Rt.iff]
  refine ⟨fun i hi => absurd hi (by omega), fun i hi => absurd hi (by omega), fun k i _ hi => absurd hi (by omega)⟩
theorem rt_two {l : EL} {g : Nat} {kd : Int} {p q : PD} {t u : TT} (h1 : Rt l t) (h2 : Rt l u) (h3 : Ap l t u) : Rt l (two g kd p q t u) := by
  rw [Rt.iff]
  obtain ⟨e0, e1, e2, e3, e4, e5⟩ := two_alt g kd p q t u
  refine ⟨fun i hi => ?_, fun i hi => absurd hi (by omega), fun k i hk hi hm => ?_⟩
  · rw [e2] at hi
    match i, hi with
    | 0, _ => rw [e0]; exact h1
    | 1, _ => rw [e1]; exact h2
  · rw [e2] at hi
    obtain rfl : k = 0 := by omega
    obtain rfl : i = 1 := by omega
    rw [e0, e1]
    exact h3
theorem rt_two_no {l : EL} {g : Nat} {kd : Int} {p q : PD} {t u : TT} (hs : (two g kd p q t u).stays 0 = true) (h : Rt l (two g kd p q t u)) : Ap l t u := by
  rw [Rt.iff] at h
  have := h.2.2 0 1 (by omega) (by show 1 < 2; omega) (fun j _ hj => by
    obtain rfl : j = 0 := by omega
    exact hs)
  exact this
theorem two_opt (g : Nat) (p q : PD) (t u : TT) (hp : p.opt = true) : (two g 8 p q t u).stays 0 = true := by
  unfold TT.stays TT.opt
  show (if (8 : Int) = 10 then true else if (8 : Int) = 8 then (p.opt || _ || _) else false) = true
  rw [hp]
  rfl
theorem two_choice (g : Nat) (p q : PD) (t u : TT) : (two g 10 p q t u).stays 0 = true := rfl
theorem tg_leaf {l : EL} {a : Bool} {t : TT} {x : Int} (h1 : t.kd ≠ 10) (h2 : t.kd ≠ 11) : Tg l a t x ↔ uni t.kd x = true := by
  constructor
  · intro h
    cases h with
    | leaf _ _ h => exact h
    | auto h _ => exact absurd h h1
    | alt h _ _ => exact absurd h h1
    | ref h _ _ => exact absurd h h2
  · exact fun h => .leaf h2 h1 h
theorem tg_choice {l : EL} {g : Nat} {p q : PD} {t u : TT} {x : Int} : Tg l false (two g 10 p q t u) x ↔ Tg l false t x ∨ Tg l false u x := by
  constructor
  · intro h
    generalize hv : two g 10 p q t u = v at h
    generalize ha : false = a at h
    cases h with
    | leaf _ h _ => subst hv; exact absurd rfl h
    | auto _ _ => cases ha
    | ref h _ _ => subst hv; cases h
    | @alt t' i x' h hi h3 =>
      subst hv
      have hi : i < 2 := hi
      match i, hi with
      | 0, _ => exact .inl h3
      | 1, _ => exact .inr h3
  · rintro (h | h)
    · exact .alt (i := 0) rfl (by show 0 < 2; omega) h
    · exact .alt (i := 1) rfl (by show 1 < 2; omega) h
theorem okAll1 {g : Nat} {e : ET} : OkAll (el1 g e) ↔ (e.auto = false → Rt (el1 g e) e.t) :=
  ⟨fun h => h 0 (by show 0 < 1; omega), fun h p hp => h⟩
/-- two rising lists of the same numbers -/
theorem rise_ext : ∀ {xs ys : List Int}, xs.Pairwise (fun x y => x < y) → ys.Pairwise (fun x y => x < y) → (∀ x, x ∈ xs ↔ x ∈ ys) → xs = ys := fun hx hy h => by
  have nd : ∀ {zs : List Int}, zs.Pairwise (fun x y => x < y) → zs.Nodup := fun h => h.imp (fun h => by omega)
  refine List.Perm.eq_of_pairwise (le := fun a b : Int => a < b) (fun a b _ _ h1 h2 => by omega) hx hy ((List.perm_ext_iff_of_nodup (nd hx) (nd hy)).2 h)
theorem TagL.eq {l : EL} {a : Bool} {t : TT} {xs ys : List Int} (h : TagL l a t xs) (hy : ys.Pairwise (fun x y => x < y)) (hm : ∀ x, x ∈ ys ↔ Tg l a t x) : xs = ys := rise_ext h.1 hy fun x => (h.2 x).trans (hm x).symm
theorem least_one {S : TS} {y : Int} (hy : y ∈ univ) (h : ∀ x, x ∈ univ → (S x = true ↔ x = y)) : S.least = y := by
  have e : S.l = (TS.one y).l := TS.l_ext fun x hx => by
    have := h x hx
    unfold TS.one
    cases hs : S x
    · have h2 : ¬ x = y := fun e => by rw [hs] at this; exact absurd (this.2 e) (by simp)
      simp [h2]
    · have := this.1 hs
      simp [this]
  unfold TS.least
  rw [e]
  unfold TS.l TS.one univ at *
  simp only [List.mem_cons, List.not_mem_nil, or_false] at hy
  rcases hy with rfl | rfl | rfl | rfl | rfl | rfl | rfl | rfl | rfl <;> rfl
theorem sort_two {key : Nat → Int} (h : key 1 < key 0) : sortK 1 key = [1, 0] := by
  have h2 := Sort.insertionSort_holds (ltOf_swo 1 key) (idF 1) 0 2 (Nat.zero_le _) (by rw [idF_size]; exact Nat.le_refl _)
  have hs := sort_size 1 key
  unfold sortK
  generalize Go.Sort.insertionSort (ltOf (cfK 1 key)) (idF 1) 0 (1 + 1) = d at *
  obtain ⟨⟨_, _, hp⟩, hr⟩ := h2
  have h3 := hr 0 1 (by omega) (by omega) (by omega)
  obtain ⟨dl⟩ := d
  match dl, hs with
  | [a, b], _ =>
    have h4 : ltOf (cfK 1 key) b a = false := h3
    have hp : [a, b].Perm [0, 1] := hp
    have f2 : ∀ z : Fin (1 + 1), z = 0 ∨ z = 1 := by decide
    have ha := f2 a
    have hb := f2 b
    have hab : a ≠ b := by
      have := hp.nodup_iff.2 (by decide)
      simpa using this
    rcases ha with rfl | rfl <;> rcases hb with rfl | rfl
    · exact absurd rfl hab
    · unfold ltOf cfK Lib.compareInt at h4
      simp [h] at h4
    · rfl
    · exact absurd rfl hab

theorem int_row (W : World) (g : Nat) (cs : Array Value) (B n : Nat) (h : Bx W g cs 3) (hB : B ≤ g) (hn : cs.size = n) (hm : n ≤ maxLen) : W.ownsRow B 3 1 (.slice (some ⟨g, 0, none⟩) n n) n cs.toList :=
  ⟨by simp [hn], .inr ⟨g, n, cs, rfl, hB, h, Nat.le_refl _, hm, by omega, by rw [Nat.mul_one, ← hn, ← Array.length_toList, List.take_length]⟩⟩
set_option maxHeartbeats 4000000 in
theorem same_yes (w : World) (v1 v2 : Value) (B1 B2 n : Nat) (xs : List Int) (h1 : w.ownsRow B1 3 1 v1 n (xs.map (Value.int .i64))) (h2 : w.ownsRow B2 3 1 v2 n (xs.map (Value.int .i64))) (hn : 0 < n) (hm : n ≤ 1000000) :
    Calls Try.prog 12 #[v1, v2] w fun e w' => e = .returned (.bool true) ∧ Below w.heap.size w w' := by
  have hl : xs.length = n := by have := h1.1; simpa using this
  have HR1 := Lib.hid (fun i (hi : i < n) => own_read 37 3 Try.underlying37 (by kernel_rfl) Try.sizeOf3 h1 hi)
  have HR2 := Lib.hid (fun i (hi : i < n) => own_read 37 3 Try.underlying37 (by kernel_rfl) Try.sizeOf3 h2 hi)
  obtain ⟨g1, c1, rfl, _, _⟩ := h1.form hn
  obtain ⟨g2, c2, rfl, _, _⟩ := h2.form hn
  have q0 : ((n : Int) != (n : Int)) = false := by simp
  clear h1 h2
  go_enter Try.func12, Try.ntmps12
  go_wp2_with fail
  go_loopw [5] (fun iv wr => ∃ i m : Nat, i ≤ n ∧ iv = .int .i64 (i : Nat) ∧ wr = w.drewN m) (fun iv _ => n - (Lib.intOf iv).toNat)
  case atStart => exact ⟨0, 0, Nat.zero_le _, rfl, rfl⟩
  case round =>
  obtain ⟨i, m, hi, rfl, rfl⟩ := hrel
  by_cases hlt : i < n
  · have q4 : decide ((i : Int) < (n : Int)) = true := decide_eq_true (by omega)
    have q4n : decide (i < n) = true := decide_eq_true hlt
    have q5 : IntKind.i64.wrap ((i : Int) + 1) = ((i + 1 : Nat) : Int) := wrap_succ hlt (by omega)
    obtain ⟨g1', c1', e1, _, _, hi1, hc1⟩ := HR1.out i hlt
    obtain ⟨g2', c2', e2, _, _, hi2, hc2⟩ := HR2.out i hlt
    cases e1
    cases e2
    obtain ⟨x, hx⟩ : ∃ x, xs[i]? = some x := ⟨_, List.getElem?_eq_getElem (by omega)⟩
    have k1 : w.cell? ⟨g1, i, none⟩ = some (.int .i64 x) := hc1 i _ (by rw [List.getElem?_map, hx]; rfl)
    have k2 : w.cell? ⟨g2, i, none⟩ = some (.int .i64 x) := hc2 i _ (by rw [List.getElem?_map, hx]; rfl)
    have q6 : (x != x) = false := by simp
    clear hc1 hc2 hx
    go_wp2_with fail
    go_quiet (fail)
    go_wp2_with fail
    go_roundw
    case rel => exact ⟨i + 1, _, by omega, rfl, rfl⟩
    case measure => simp only [Lib.intOf]; omega
  · have q4 : decide ((i : Int) < (n : Int)) = false := decide_eq_false (by omega)
    have q4n : decide (i < n) = false := decide_eq_false hlt
    go_wp2_with fail
    go_ret
    exact ⟨rfl, ⟨rfl, rfl, rfl, Nat.le_refl _, fun _ _ => rfl⟩⟩
end Go.Proofs.Ytecedbjkebdeaaa
