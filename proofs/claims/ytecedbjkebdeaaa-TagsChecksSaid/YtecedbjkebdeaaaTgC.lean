/-
  slices.Concat at parts.
-/
import Derived.Test.YtecedbjkebdeaaaTgM
import Derived.Test.YtecedbjkebdeaaaShEv
import Derived.Lib.AppendZeros
import Derived.Deep.AppendLies
import Derived.Laws.AppendOwnNone
namespace Go.Proofs.Ytecedbjkebdeaaa
open Go.RowKit
set_option linter.unusedVariables false
set_option linter.unusedSimpArgs false
set_option maxRecDepth 100000

theorem info_parts {t : TypeId} {z : Value} {s b : Nat} (h : (Try.prog.info? t).map (fun i => (i.zero, i.size, i.bytes)) = some (some z, s, b)) :
    ∃ i, Try.prog.info? t = some i ∧ i.zero = some z ∧ i.size = s ∧ i.bytes = b := by
  cases hi : Try.prog.info? t with
  | none => rw [hi] at h; cases h
  | some i =>
    rw [hi] at h
    simp only [Option.map_some, Option.some.injEq, Prod.mk.injEq] at h
    exact ⟨i, rfl, h.1, h.2.1, h.2.2⟩
/-- n elements' cells, one behind the other -/
def flat (f : Nat → List Value) : Nat → List Value
  | 0 => []
  | n + 1 => flat f n ++ f n
theorem flat_len {f : Nat → List Value} {k : Nat} : ∀ {n : Nat}, (∀ i, i < n → (f i).length = k) → (flat f n).length = n * k
  | 0, _ => by simp [flat]
  | n + 1, h => by
    have h1 := flat_len (n := n) (fun i hi => h i (by omega))
    unfold flat
    rw [List.length_append, h1, h n (by omega), Nat.add_mul, Nat.one_mul]
theorem flat_at {f : Nat → List Value} {k : Nat} : ∀ {n : Nat}, (∀ i, i < n → (f i).length = k) → ∀ {i r : Nat}, i < n → r < k → (flat f n)[i * k + r]? = (f i)[r]?
  | 0, _, i, _, hi, _ => absurd hi (Nat.not_lt_zero i)
  | n + 1, h, i, r, hi, hr => by
    have h1 := flat_len (n := n) (fun i hi => h i (by omega))
    unfold flat
    rcases Nat.lt_or_ge i n with h2 | h2
    · have h3 : i * k + r < n * k := by
        have : (i + 1) * k ≤ n * k := Nat.mul_le_mul_right k h2
        rw [Nat.add_mul, Nat.one_mul] at this
        omega
      rw [List.getElem?_append_left (by omega)]
      exact flat_at (fun i hi => h i (by omega)) h2 hr
    · obtain rfl : i = n := by omega
      rw [List.getElem?_append_right (by omega), h1]
      congr 1
      omega
theorem flat_get {f : Nat → List Value} {k : Nat} (hk : 0 < k) {n : Nat} (h : ∀ i, i < n → (f i).length = k) {j : Nat} {u : Value} (hj : (flat f n)[j]? = some u) : ∃ i r, i < n ∧ r < k ∧ j = i * k + r ∧ (f i)[r]? = some u := by
  have hlt : j < n * k := by
    rw [← flat_len h]
    exact (List.getElem?_eq_some_iff.1 hj).1
  have h1 : j / k < n := (Nat.div_lt_iff_lt_mul hk).2 hlt
  have h2 := Nat.mod_lt j hk
  have h3 : j = j / k * k + j % k := by rw [Nat.mul_comm]; exact (Nat.div_add_mod j k).symm
  refine ⟨j / k, j % k, h1, h2, h3, ?_⟩
  rw [h3, flat_at h h1 h2] at hj
  exact hj
theorem flat_add {f g : Nat → List Value} {n : Nat} : ∀ m, flat f n ++ flat g m = flat (fun i => if i < n then f i else g (i - n)) (n + m)
  | 0 => by
    have : ∀ k, k ≤ n → flat f k = flat (fun i => if i < n then f i else g (i - n)) k := by
      intro k
      induction k with
      | zero => intro _; rfl
      | succ k ih =>
        intro hk
        show flat f k ++ f k = flat (fun i => if i < n then f i else g (i - n)) k ++ (if k < n then f k else g (k - n))
        rw [← ih (by omega), if_pos (by omega)]
    show flat f n ++ [] = _
    rw [List.append_nil]
    exact this n (Nat.le_refl _)
  | m + 1 => by
    have h1 := flat_add (f := f) (g := g) (n := n) m
    show flat f n ++ (flat g m ++ g m) = flat (fun i => if i < n then f i else g (i - n)) (n + m) ++ (if n + m < n then f (n + m) else g (n + m - n))
    rw [← List.append_assoc, h1, if_neg (by omega), Nat.add_sub_cancel_left]
theorem flat_one {f : Nat → List Value} {n : Nat} (h : ∀ i, i < n → ∀ u ∈ f i, u.oneCell' = true) : ∀ u ∈ flat f n, u.oneCell' = true := by
  induction n with
  | zero => intro u hu; cases hu
  | succ n ih =>
    intro u hu
    unfold flat at hu
    rcases List.mem_append.1 hu with h1 | h1
    · exact ih (fun i hi => h i (by omega)) u h1
    · exact h n (by omega) u h1
/-- a slice whose elements of k cells are read so -/
def PRow (base : Nat) (W : World) (v : Value) (n : Nat) (cells : Nat → List Value) : Prop :=
  ∃ a cap, v = .slice a n cap ∧ n ≤ cap ∧ ∀ i, i < n → ∃ g o, (∀ w, (Instr.indexAt 32 v (.int .i64 (i : Nat))).run Try.prog w = .ok (.pointer (some ⟨g, o, none⟩)) w) ∧ base ≤ g ∧ g < W.heap.size ∧ W.rangeAt g o (cells i)
def zeroP : Value := .agg #[.string ⟨#[]⟩, .int .i64 0, .string ⟨#[]⟩, .int .i64 0, .int .i64 0, .int .i64 0, .bool false, .bool false, .slice none 0 0, .bool false, .string ⟨#[]⟩, .slice none 0 0, .slice none 0 0, .slice none 0 0, .slice none 0 0, .slice none 0 0, .bool false, .slice none 0 0]
theorem info_Pz : (Try.prog.info? 42).map (fun i => (i.zero, i.size, i.bytes)) = some (some zeroP, 18, 272) := by kernel_rfl

set_option maxHeartbeats 2000000 in
/-- slices.Grow of nil: nil, or a row of no elements with room -/
theorem growP_ok (w : World) (n : Nat) (hn : n ≤ 100000) :
    Calls Try.prog 55 #[.slice none 0 0, .int .i64 (n : Nat)] w fun e w' => ∃ v, e = .returned v ∧ w'.ownsRow w.heap.size 42 18 v 0 [] ∧ Below w.heap.size w w' := by
  obtain ⟨i0, hi0, hz0, hz1, hz2⟩ := info_parts info_Pz
  have HB0 := Lib.hid (Below.refl w.heap.size w)
  have q0 : decide ((n : Int) < 0) = false := decide_eq_false (by omega)
  have q3 : IntKind.i64.wrap ((n : Int) - 0) = (n : Int) := by rw [Int.sub_zero]; exact wrap_ok (by unfold I64; omega)
  by_cases h0 : 0 < n
  · have q1 : decide ((0 : Int) < (n : Int)) = true := decide_eq_true (by omega)
    have q1n : decide (0 < n) = true := decide_eq_true h0
    have hg := Lib.run_append_nil_zeros (P := Try.prog) w 32 3 32 42 i0 zeroP .i64 .i64 Try.underlying32 Try.underlying3 hi0 hz0 n h0 (by rw [hz1]; decide) (by omega) (by rw [hz2]; omega)
    have hge := grownCap_ge w n 0 42
    have hcm := grownCap_le_maxLen w n 0 42 (by unfold maxLen; omega)
    generalize grownCap w n 0 42 = cap at hg hge hcm
    have HOWN := Lib.hid (World.ownsRow_made (base := w.heap.size) (e := 42) (size := 18) w.drew (Builtin.zeroCells zeroP.cells n ++ Builtin.zeroCells zeroP.cells (cap - n)) cap (Nat.le_refl _) hcm (by
      rw [Array.size_append, size_zeroCells, size_zeroCells, show zeroP.cells.size = 18 from rfl, ← Nat.add_mul]
      congr 1
      omega))
    have HBB := Lib.hid ((Below.drew HB0.out).alloc (w := w.drew) (Nat.le_refl _) (.cells (Builtin.zeroCells zeroP.cells n ++ Builtin.zeroCells zeroP.cells (cap - n)) 42))
    generalize Builtin.zeroCells zeroP.cells n ++ Builtin.zeroCells zeroP.cells (cap - n) = cur at hg HOWN HBB
    clear h0 hz0 hz1 hz2 hi0 hcm
    go_enter Try.func55, Try.ntmps55
    go_wp2_with (at_builtin; refine Lib.wpList_append_run _ rfl _ _ _ _ rfl _ _ rfl rfl _ _ hg ?_)
    go_ret
    exact ⟨_, rfl, HOWN.out, HBB.out⟩
  · obtain rfl : n = 0 := by omega
    go_enter Try.func55, Try.ntmps55
    go_wp2_with fail
    go_ret
    exact ⟨_, rfl, World.ownsRow_nil _ _ _ _, HB0.out⟩

theorem PRow.of {W : World} {base n : Nat} {v : Value} {f : Nat → List Value} (hl : ∀ i, i < n → (f i).length = 18) (h : W.ownsRow base 42 18 v n (flat f n)) : PRow base W v n f := by
  have hlt := h.lt
  have hc := fun g (hg : v.ownBlock = some g) => h.cells hg
  rcases h.2 with ⟨rfl, h0⟩ | ⟨g, cap, cur, rfl, hb, hg, hnc, _⟩
  · exact ⟨none, 0, by rw [h0], by omega, fun i hi => by omega⟩
  · refine ⟨_, _, rfl, hnc, fun i hi => ⟨g, i * 18, fun w => ?_, hb, (hlt g rfl).2, fun j u hu => ?_⟩⟩
    · rw [run_indexAt_slice (h := by rw [show Try.prog.elem 32 = 42 from by kernel_rfl]; exact Try.underlying32), if_pos (by omega), show Try.prog.elem 32 = 42 from by kernel_rfl, Try.sizeOf42]
      simp [Result.andThen, Addr.add_mid]
    · have hj : j < 18 := by rw [← hl i hi]; exact (List.getElem?_eq_some_iff.1 hu).1
      have := hc g rfl (i * 18 + j) u (by rw [flat_at hl hi hj]; exact hu)
      rw [Addr.add_mid, Nat.zero_add] at this
      exact this
theorem row_news {B : Nat} {W : World} {a : Option Addr} {n cap : Nat} {f : Nat → List Value} (h : RowAt B W a n cap 18 f) (hl : ∀ i, i < n → (f i).length = 18) :
    (a = none ∧ n = 0 ∧ cap = 0) ∨ ∃ ad, a = some ad ∧ ∀ W' : World, Below B W W' → ∀ j u, (flat f n)[j]? = some u → W'.cell? (ad.add j) = some u := by
  rcases Nat.eq_zero_or_pos n with h0 | h0
  · cases a with
    | none => exact .inl ⟨rfl, (h.2.2.1 rfl).1, (h.2.2.1 rfl).2⟩
    | some ad => exact .inr ⟨ad, rfl, fun W' _ j u hu => by rw [h0] at hu; cases hu⟩
  · obtain ⟨g, o, rfl, hg, hc⟩ := h.2.2.2 h0
    refine .inr ⟨_, rfl, fun W' hb j u hu => ?_⟩
    obtain ⟨i, r, hi, hr, rfl, hu2⟩ := flat_get (by decide) hl hu
    rw [Addr.add_mid, ← Nat.add_assoc]
    exact (hb.cell (p := ⟨g, o + i * 18 + r, none⟩) hg).trans (hc i hi r u hu2)
/-- how many, behind k of the two -/
def cnt2 (pn an : Nat) (k : Nat) : Nat := if k = 0 then 0 else if k = 1 then pn else pn + an
def flat2 (F1 F2 : List Value) (k : Nat) : List Value := if k = 0 then [] else if k = 1 then F1 else F1 ++ F2
def RelC1 (pn an : Nat) (w : World) (sv iv : Value) (wr : World) : Prop := ∃ k : Nat, k ≤ 2 ∧ iv = .int .i64 (k : Nat) ∧ sv = .int .i64 (cnt2 pn an k : Nat) ∧ wr = w
def RelC2 (F1 F2 : List Value) (pn an : Nat) (w : World) (vv iv : Value) (wr : World) : Prop := ∃ k : Nat, k ≤ 2 ∧ iv = .int .i64 (k : Nat) ∧ wr.ownsRow w.heap.size 42 18 vv (cnt2 pn an k) (flat2 F1 F2 k) ∧ Below w.heap.size w wr
set_option maxHeartbeats 8000000 in
theorem concat_ok (w : World) (B g0 : Nat) (pa : Option Addr) (pn pc : Nat) (f : Nat → List Value) (aa : Option Addr) (an ac : Nat) (g : Nat → List Value) (hB : B ≤ w.heap.size) (hg0 : g0 < w.heap.size)
    (hc0 : w.cell? ⟨g0, 0, none⟩ = some (.slice pa pn pc)) (hc1 : w.cell? ⟨g0, 1, none⟩ = some (.slice aa an ac)) (hp : RowAt B w pa pn pc 18 f) (ha : RowAt B w aa an ac 18 g)
    (hlf : ∀ i, i < pn → (f i).length = 18) (hlg : ∀ i, i < an → (g i).length = 18) (hof : ∀ i, i < pn → ∀ u ∈ f i, u.oneCell' = true) (hog : ∀ i, i < an → ∀ u ∈ g i, u.oneCell' = true) (hpn : pn ≤ 10000) (han : an ≤ 10000) :
    Calls Try.prog 43 #[.slice (some ⟨g0, 0, none⟩) 2 2] w fun e w' => ∃ v, e = .returned v ∧ PRow w.heap.size w' v (pn + an) (fun i => if i < pn then f i else g (i - pn)) ∧ Below w.heap.size w w' := by
  obtain ⟨i0, hi0, hz0, hz1, hz2⟩ := info_parts info_Pz
  have HN1 := Lib.hid (row_news hp hlf)
  have HN2 := Lib.hid (row_news ha hlg)
  have HL1 := Lib.hid (flat_len hlf)
  have HL2 := Lib.hid (flat_len hlg)
  have HO1 := Lib.hid (flat_one hof)
  have HO2 := Lib.hid (flat_one hog)
  have HBB := Lib.hid hB
  have HFIN := Lib.hid (show ∀ (W : World) (v : Value), W.ownsRow w.heap.size 42 18 v (pn + an) (flat f pn ++ flat g an) → PRow w.heap.size W v (pn + an) (fun i => if i < pn then f i else g (i - pn)) from fun W v h => by
    rw [flat_add] at h
    refine PRow.of (fun i hi => ?_) h
    split
    · exact hlf i (by assumption)
    · exact hlg _ (by omega))
  have HC := Lib.hid (fun (W : World) (hb : Below w.heap.size w W) => And.intro ((hb.cell (p := ⟨g0, 0, none⟩) hg0).trans hc0) ((hb.cell (p := ⟨g0, 1, none⟩) hg0).trans hc1))
  have HB0 := Lib.hid (Below.refl w.heap.size w)
  clear hp ha hlf hlg hof hog hB
  generalize flat f pn = F1 at *
  generalize flat g an = F2 at *
  have e0 : cnt2 pn an 0 = 0 := rfl
  have e1 : cnt2 pn an 1 = pn := rfl
  have e2 : cnt2 pn an 2 = pn + an := rfl
  go_enter Try.func43, Try.ntmps43
  go_wp2_with fail
  go_loopw [3, 11] (fun sv iv wr => RelC1 pn an w sv iv wr) (fun _ iv _ => 2 - (Lib.intOf iv).toNat)
  case atStart => exact ⟨0, by omega, rfl, rfl, rfl⟩
  case round =>
    obtain ⟨k, hk, rfl, rfl, hwr⟩ := hrel
    obtain rfl : w = wr := hwr.symm
    rcases (by omega : k = 0 ∨ k = 1 ∨ k = 2) with rfl | rfl | rfl
    · have q2 : IntKind.i64.wrap (0 + (pn : Int)) = (pn : Int) := by rw [Int.zero_add]; exact wrap_ok (by unfold I64; omega)
      have q3 : decide ((pn : Int) < 0) = false := decide_eq_false (by omega)
      rw [e0]
      go_wp2_with fail
      go_roundw
      case rel => exact ⟨1, by omega, rfl, rfl, rfl⟩
      case measure => decide
    · have q2 : IntKind.i64.wrap ((pn : Int) + (an : Int)) = ((pn + an : Nat) : Int) := (wrap_ok (by unfold I64; omega)).trans (by omega)
      have q3 : decide (((pn + an : Nat) : Int) < 0) = false := decide_eq_false (by omega)
      rw [e1]
      generalize pn + an = N at *
      go_wp2_with fail
      go_roundw
      case rel => exact ⟨2, by omega, rfl, by rw [e2], rfl⟩
      case measure => decide
    · rw [e2]
      have HG := Lib.hid (growP_ok w (pn + an) (by omega))
      generalize pn + an = N at *
      go_wp2_with fail
      refine HG.out.mono ?_
      rintro e w1 ⟨v, rfl, hown, hb⟩
      have HOW := Lib.hid hown
      have HB1 := Lib.hid hb
      clear hown hb hc0 hc1
      go_wp2_with fail
      clear hg0
      go_loopw [6, 27] (fun vv iv wr => RelC2 F1 F2 pn an w vv iv wr) (fun _ iv _ => 2 - (Lib.intOf iv).toNat)
      case atStart => exact ⟨0, by omega, rfl, HOW.out, HB1.out⟩
      case round =>
      obtain ⟨k, hk, rfl, hown2, hb2⟩ := hrel
      have HB2 := Lib.hid hb2
      clear hb2
      rcases (by omega : k = 0 ∨ k = 1 ∨ k = 2) with rfl | rfl | rfl
      · have HOW3 := Lib.hid (show wr.ownsRow w.heap.size 42 18 _ 0 [] from hown2)
        have c0 := (HC.out _ HB2.out).1
        clear hown2
        rcases HN1.out with ⟨rfl, rfl, rfl⟩ | ⟨ad, rfl, hnews⟩
        · go_wp2_with (at_builtin; refine wpList_append_own_none rfl (.tmp 31) (.tmp 32) 32 rfl w.heap.size 42 i0 18 Try.underlying32 hi0 _ 0 [] rfl HOW3.out rfl ?_)
          go_roundw
          case rel => exact ⟨1, by omega, rfl, by have h := HOW3.out; have h1 := HL1.out; rw [Nat.zero_mul] at h1; obtain rfl := List.eq_nil_of_length_eq_zero h1; exact h, HB2.out⟩
          case measure => decide
        · have HNW := Lib.hid (hnews wr (HB2.out.mono HBB.out))
          clear hnews
          go_wp2_with (at_builtin; refine wpList_append_own _ rfl (.tmp 31) (.tmp 32) 32 rfl w.heap.size 42 i0 zeroP 18 272 Try.underlying32 hi0 hz0 hz1 hz2 rfl (by decide) _ 0 [] rfl HOW3.out ad pn pc F1 rfl HL1.out HNW.out HO1.out (by unfold maxLen; omega) (by omega) HB2.out.size ?_; intro v4 w4 ho4 hg4 _; have HO4 := Lib.hid ho4; have HG4 := Lib.hid hg4; clear ho4 hg4)
          go_roundw
          case rel => exact ⟨1, by omega, rfl, by have h := HO4.out; rw [Nat.zero_add] at h; exact h, HB2.out.grown HG4.out HB2.out.size (fun k hk => (HOW3.out.lt k hk).1)⟩
          case measure => decide
      · have HOW3 := Lib.hid (show wr.ownsRow w.heap.size 42 18 _ pn F1 from hown2)
        have c0 := (HC.out _ HB2.out).2
        clear hown2
        rcases HN2.out with ⟨rfl, rfl, rfl⟩ | ⟨ad, rfl, hnews⟩
        · go_wp2_with (at_builtin; refine wpList_append_own_none rfl (.tmp 31) (.tmp 32) 32 rfl w.heap.size 42 i0 18 Try.underlying32 hi0 _ pn F1 rfl HOW3.out rfl ?_)
          go_roundw
          case rel => exact ⟨2, by omega, rfl, by have h := HOW3.out; have h1 := HL2.out; rw [Nat.zero_mul] at h1; obtain rfl := List.eq_nil_of_length_eq_zero h1; show World.ownsRow _ _ _ _ _ (cnt2 pn 0 2) (F1 ++ []); rw [List.append_nil]; exact h, HB2.out⟩
          case measure => decide
        · have HNW := Lib.hid (hnews wr (HB2.out.mono HBB.out))
          clear hnews
          go_wp2_with (at_builtin; refine wpList_append_own _ rfl (.tmp 31) (.tmp 32) 32 rfl w.heap.size 42 i0 zeroP 18 272 Try.underlying32 hi0 hz0 hz1 hz2 rfl (by decide) _ pn F1 rfl HOW3.out ad an ac F2 rfl HL2.out HNW.out HO2.out (by unfold maxLen; omega) (by omega) HB2.out.size ?_; intro v4 w4 ho4 hg4 _; have HO4 := Lib.hid ho4; have HG4 := Lib.hid hg4; clear ho4 hg4)
          go_roundw
          case rel => exact ⟨2, by omega, rfl, HO4.out, HB2.out.grown HG4.out HB2.out.size (fun k hk => (HOW3.out.lt k hk).1)⟩
          case measure => decide
      · have hown3 := hown2
        rw [e2] at hown3
        have HP := Lib.hid (HFIN.out _ _ hown3)
        clear hown2 hown3
        go_wp2_with fail
        go_ret
        refine ⟨_, rfl, ?_, HB2.out⟩
        rw [show pn + an = N from e2]
        exact HP.out
end Go.Proofs.Ytecedbjkebdeaaa
