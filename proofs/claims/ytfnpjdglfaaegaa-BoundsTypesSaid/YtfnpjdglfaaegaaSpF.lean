/-
  The document's answer for sets: Has, Same; numbers at their places.
-/
import Derived.Test.YtfnpjdglfaaegaaSpN
import Derived.Deep.CutRange
namespace Go.Proofs.Ytfnpjdglfaaegaa
open Go.RowKit Go.Shelf
set_option linter.unusedVariables false
set_option linter.unusedSimpArgs false
set_option maxRecDepth 100000

theorem hasB_cons (r : Rg) (l : List Rg) (n : Int) : hasB (r :: l) n = ((decide (r.1 ≤ n) && decide (n ≤ r.2)) || hasB l n) := rfl
theorem fdrop_get {l : List Rg} {i : Nat} (h : i < l.length) : l.drop i = l[i]! :: l.drop (i + 1) := by
  rw [List.drop_eq_getElem_cons h, getElem!_pos l i h]
/-- where a slice's elements lie: nowhere, or in a block -/
theorem RSl.two {w : World} {v : Value} {s : List Rg} (hv : RSl w v s) : (s = [] ∧ ∃ a cap, v = .slice a 0 cap) ∨ (∃ g o cap n, v = .slice (some ⟨g, o, none⟩) n cap ∧ s.length = n ∧ 0 < n ∧ g < w.heap.size ∧ ∀ j, j < n → ∀ W, Below w.heap.size w W → W.cell? ⟨g, o + j * 2, none⟩ = some (.int .i64 s[j]!.1) ∧ W.cell? ⟨g, o + j * 2 + 1, none⟩ = some (.int .i64 s[j]!.2)) := by
  rcases Nat.eq_zero_or_pos s.length with h0 | h0
  · obtain rfl : s = [] := List.length_eq_zero_iff.1 h0
    obtain ⟨a, cap, e⟩ := hv.shape
    exact .inl ⟨rfl, a, cap, e⟩
  · obtain ⟨g, o, cap, e, hc, hg, hd⟩ := hv.at h0
    refine .inr ⟨g, o, cap, s.length, e, rfl, h0, hg, fun j hj W hW => ?_⟩
    rw [← (hd j hj).1, ← (hd j hj).2]
    exact ⟨World.cell?_of_block (w := w) (hW.block g hg), World.cell?_of_block (w := w) (hW.block g hg)⟩
def RelH (w : World) (R : Bool) (s : List Rg) (n : Int) (iv : Value) (wr : World) : Prop :=
  ∃ i : Nat, i ≤ s.length ∧ iv = .int .i64 (i : Nat) ∧ hasB (s.drop i) n = R ∧ wr = w
set_option maxHeartbeats 2000000 in
theorem rHas_ok (w : World) (v : Value) (s : List Rg) (n : Int) (hv : RSl w v s) (hn : s.length ≤ 1000000000) :
    Calls Try.prog 65 #[v, .int .i64 n] w fun e w' => e = .returned (.bool (hasB s n)) ∧ w' = w := by
  obtain ⟨R, hR⟩ : ∃ R, hasB s n = R := ⟨_, rfl⟩
  rw [hR]
  have H0 := Lib.hid (show RelH w R s n (.int .i64 0) w from ⟨0, Nat.zero_le _, rfl, hR, rfl⟩)
  rcases hv.two with ⟨rfl, a, cap, rfl⟩ | ⟨g, o, cap, m, rfl, hsn, h0, hg, hd⟩
  · obtain rfl : R = false := hR.symm
    clear hv hn hR
    go_enter Try.func65, Try.ntmps65
    go_wp2_with fail
    go_loopw [5] (fun iv wr => iv = .int .i64 0 ∧ wr = w) (fun _ _ => 0)
    case atStart => exact ⟨rfl, rfl⟩
    case round =>
      obtain ⟨rfl, rfl⟩ := hrel
      go_wp2_with fail
      go_ret
      exact ⟨rfl, rfl⟩
  · have HD := Lib.hid hd
    have HSN := Lib.hid hsn
    rw [hsn] at hn
    have HG := Lib.hid hg
    clear hv hd hsn hg hR
    go_enter Try.func65, Try.ntmps65
    go_wp2_with fail
    go_loopw [5] (fun iv wr => RelH w R s n iv wr) (fun iv _ => m - (Lib.intOf iv).toNat)
    case atStart => exact H0.out
    case round =>
      clear H0
      obtain ⟨i, hi, rfl, hR, rfl⟩ := hrel
      by_cases hlt : i < m
      · have q1 : decide ((i : Int) < (m : Int)) = true := decide_eq_true (by omega)
        have q1n : decide (i < m) = true := decide_eq_true hlt
        have q3 : IntKind.i64.wrap ((i : Int) + 1) = ((i + 1 : Nat) : Int) := wrap_succ hlt (by omega)
        have hil : i < s.length := by have := HSN.out; omega
        obtain ⟨c1, c2⟩ := HD.out i hlt _ (Below.refl _ _)
        rw [fdrop_get hil, hasB_cons] at hR
        obtain ⟨x, hx⟩ : ∃ x, s[i]!.1 = x := ⟨_, rfl⟩
        obtain ⟨y, hy⟩ : ∃ y, s[i]!.2 = y := ⟨_, rfl⟩
        rw [hx] at c1 hR
        rw [hy] at c2 hR
        by_cases hx1 : x ≤ n
        · have q4 : decide (x ≤ n) = true := decide_eq_true hx1
          by_cases hy1 : n ≤ y
          · have q5 : decide (n ≤ y) = true := decide_eq_true hy1
            rw [q4, q5] at hR
            obtain rfl : R = true := by rw [← hR]; rfl
            clear hR hx hy
            go_wp2_with fail
            go_ret
            exact ⟨rfl, rfl⟩
          · have q5 : decide (n ≤ y) = false := decide_eq_false hy1
            rw [q4, q5, Bool.and_false, Bool.false_or] at hR
            have HR := Lib.hid hR
            clear hR hx hy
            go_wp2_with fail
            go_roundw
            case rel => exact ⟨i + 1, hil, rfl, HR.out, rfl⟩
            case measure => simp only [Lib.intOf]; omega
        · have q4 : decide (x ≤ n) = false := decide_eq_false hx1
          rw [q4, Bool.false_and, Bool.false_or] at hR
          have HR := Lib.hid hR
          clear hR hx hy
          go_wp2_with fail
          go_roundw
          case rel => exact ⟨i + 1, hil, rfl, HR.out, rfl⟩
          case measure => simp only [Lib.intOf]; omega
      · have q1 : decide ((i : Int) < (m : Int)) = false := decide_eq_false (by omega)
        have q1n : decide (i < m) = false := decide_eq_false hlt
        rw [List.drop_of_length_le (by have := HSN.out; omega)] at hR
        obtain rfl : R = false := hR.symm
        clear hR
        go_wp2_with fail
        go_ret
        exact ⟨rfl, rfl⟩

/-! ### Same -/
def RelE (w : World) (a b : List Rg) (iv : Value) (wr : World) : Prop :=
  ∃ i : Nat, i ≤ a.length ∧ iv = .int .i64 (i : Nat) ∧ (∀ j, j < i → a[j]! = b[j]!) ∧ Below w.heap.size w wr
theorem list_eq_of {a b : List Rg} (hl : a.length = b.length) (h : ∀ j, j < a.length → a[j]! = b[j]!) : a = b :=
  List.ext_getElem hl fun i h1 h2 => by
    have := h i h1
    rwa [getElem!_pos a i h1, getElem!_pos b i h2] at this
set_option maxHeartbeats 4000000 in
theorem Same_ok (w : World) (va vb : Value) (a b : List Rg) (ha : RSl w va a) (hb : RSl w vb b) (hn : a.length ≤ 1000000000) :
    Calls Try.prog 30 #[va, vb] w fun e w' => e = .returned (.bool (decide (a = b))) ∧ Below w.heap.size w w' := by
  obtain ⟨sa, ca, ea⟩ := ha.shape
  obtain ⟨sb, cb, eb⟩ := hb.shape
  by_cases hlen : a.length = b.length
  · rcases ha.two with ⟨rfl, s2, c2, rfl⟩ | ⟨g, o, cap, m, rfl, hsn, h0, hg, hd⟩
    · obtain rfl : b = [] := List.length_eq_zero_iff.1 hlen.symm
      subst eb
      rw [show decide (([] : List Rg) = []) = true from rfl]
      simp only [List.length_nil]
      clear ha hb hlen hn ea
      go_enter Try.func30, Try.ntmps30
      go_wp2_with fail
      go_loopw [5] (fun iv wr => iv = .int .i64 0 ∧ wr = w) (fun _ _ => 0)
      case atStart => exact ⟨rfl, rfl⟩
      case round =>
        obtain ⟨rfl, rfl⟩ := hrel
        go_wp2_with fail
        go_ret
        exact ⟨rfl, Below.refl _ _⟩
    · rcases hb.two with ⟨rfl, _⟩ | ⟨g2, o2, cap2, m2, rfl, hsn2, h02, hg2, hd2⟩
      · rw [hsn] at hlen; simp at hlen; omega
      · obtain rfl : m2 = m := by omega
        have HD := Lib.hid hd
        have HD2 := Lib.hid hd2
        have HSN := Lib.hid hsn
        have HLEN := Lib.hid hlen
        rw [hsn] at hn
        have HG := Lib.hid hg
        have HG2 := Lib.hid hg2
        have qn : (((m2 : Nat) : Int) != ((m2 : Nat) : Int)) = false := by simp
        obtain ⟨R, hR⟩ : ∃ R, decide (a = b) = R := ⟨_, rfl⟩
        rw [hR]
        have HR := Lib.hid hR
        clear ha hb hd hd2 hsn hsn2 hlen hg hg2 ea eb hR
        go_enter Try.func30, Try.ntmps30
        go_wp2_with fail
        go_loopw [5] (fun iv wr => RelE w a b iv wr) (fun iv _ => m2 - (Lib.intOf iv).toNat)
        case atStart => exact ⟨0, Nat.zero_le _, rfl, fun j hj => absurd hj (Nat.not_lt_zero _), Below.refl _ _⟩
        case round =>
          obtain ⟨i, hi, rfl, heq, hbel⟩ := hrel
          have HB := Lib.hid hbel
          have HE := Lib.hid heq
          clear hbel heq
          by_cases hlt : i < m2
          · have q1 : decide ((i : Int) < (m2 : Int)) = true := decide_eq_true (by omega)
            have q1n : decide (i < m2) = true := decide_eq_true hlt
            have q3 : IntKind.i64.wrap ((i : Int) + 1) = ((i + 1 : Nat) : Int) := wrap_succ hlt (by omega)
            have hil : i < a.length := by have := HSN.out; omega
            have x1 : (i : Int) < (m2 : Int) := by omega
            obtain ⟨c1, c2⟩ := HD.out i hlt wr HB.out
            obtain ⟨c3, c4⟩ := HD2.out i hlt wr HB.out
            have hg1 : g < wr.heap.size := Nat.lt_of_lt_of_le HG.out HB.out.size
            have hg2 : g2 < wr.heap.size := Nat.lt_of_lt_of_le HG2.out HB.out.size
            have HNE := Lib.hid (show a[i]! ≠ b[i]! → R = false from fun h => HR.out.symm.trans (decide_eq_false (fun e => h (by rw [e]))))
            have HEX := Lib.hid (show ∀ p q : Rg, a[i]! = p → b[i]! = q → p = q → ∀ j, j < i + 1 → a[j]! = b[j]! from fun p q e1 e2 e3 j hj => by
              rcases Nat.lt_or_ge j i with h | h
              · exact HE.out j h
              · obtain rfl : j = i := by omega
                rw [e1, e2, e3])
            obtain ⟨p, hp⟩ : ∃ p, a[i]! = p := ⟨_, rfl⟩
            obtain ⟨q, hq⟩ : ∃ q, b[i]! = q := ⟨_, rfl⟩
            have HPQ := Lib.hid (And.intro hp hq)
            rw [hp] at c1 c2 HNE
            rw [hq] at c3 c4 HNE
            obtain ⟨p1, p2⟩ := p
            obtain ⟨r1, r2⟩ := q
            simp only at c1 c2 c3 c4
            clear hp hq
            by_cases h1 : p1 = r1
            · subst h1
              have qa : (p1 != p1) = false := by simp
              by_cases h2 : p2 = r2
              · subst h2
                have qb : (p2 != p2) = false := by simp
                have HEX2 := Lib.hid (HEX.out _ _ HPQ.out.1 HPQ.out.2 rfl)
                go_wp2_with fail
                go_quiet (fail)
                clear c1 c2 c3 c4
                go_wp2_with fail
                go_roundw
                case rel => exact ⟨i + 1, hil, rfl, HEX2.out, ⟨HB.out.os, HB.out.tape, HB.out.output, HB.out.size, HB.out.block⟩⟩
                case measure => simp only [Lib.intOf]; omega
              · have qb : (p2 != r2) = true := by simpa using h2
                have qb2 : (p2 == r2) = false := by simpa using h2
                obtain rfl : R = false := HNE.out (by intro e; injection e; contradiction)
                clear HNE HR
                go_wp2_with fail
                go_quiet (fail)
                clear c1 c2 c3 c4
                go_wp2_with fail
                go_ret
                exact ⟨rfl, ⟨HB.out.os, HB.out.tape, HB.out.output, HB.out.size, HB.out.block⟩⟩
            · have qa : (p1 != r1) = true := by simpa using h1
              have qa2 : (p1 == r1) = false := by simpa using h1
              obtain rfl : R = false := HNE.out (by intro e; injection e; contradiction)
              clear HNE HR
              go_wp2_with fail
              go_quiet (fail)
              clear c1 c2 c3 c4
              go_wp2_with fail
              go_ret
              exact ⟨rfl, ⟨HB.out.os, HB.out.tape, HB.out.output, HB.out.size, HB.out.block⟩⟩
          · have q1 : decide ((i : Int) < (m2 : Int)) = false := decide_eq_false (by omega)
            have q1n : decide (i < m2) = false := decide_eq_false hlt
            obtain rfl : R = true := HR.out.symm.trans (decide_eq_true (list_eq_of HLEN.out (fun j hj => HE.out j (by have := HSN.out; omega))))
            go_wp2_with fail
            go_ret
            exact ⟨rfl, HB.out⟩
  · subst ea
    subst eb
    rw [show decide (a = b) = false from decide_eq_false (fun e => hlen (by rw [e]))]
    obtain ⟨la, hla⟩ : ∃ la, a.length = la := ⟨_, rfl⟩
    obtain ⟨lb, hlb⟩ : ∃ lb, b.length = lb := ⟨_, rfl⟩
    rw [hla, hlb] at hlen ⊢
    have qn : (((la : Nat) : Int) != ((lb : Nat) : Int)) = true := by simp; omega
    have qn2 : (((la : Nat) : Int) == ((lb : Nat) : Int)) = false := by simp; omega
    clear ha hb hla hlb hn
    go_enter Try.func30, Try.ntmps30
    go_wp2_with fail
    go_ret
    exact ⟨rfl, Below.refl _ _⟩
end Go.Proofs.Ytfnpjdglfaaegaa
