/-
  A bundle of texts, one behind the other: SpF, SpG, SpK.
-/
import Derived.Test.YtjhecpkdpomkmaaGreatQD
import Derived.Deep.CutRange
namespace Go.Proofs.YtjhecpkdpomkmaaGreat
open Go.RowKit Go.Shelf
set_option linter.unusedVariables false
set_option linter.unusedSimpArgs false
set_option maxRecDepth 100000

theorem hasB_cons (r : Rg) (l : List Rg) (n : Int) : hasB (r :: l) n = ((decide (r.1 ≤ n) && decide (n ≤ r.2)) || hasB l n) := rfl
theorem fdrop_get {l : List Rg} {i : Nat} (h : i < l.length) : l.drop i = l[i]! :: l.drop (i + 1) := by
  rw [List.drop_eq_getElem_cons h, getElem!_pos l i h]
/-- where a slice's elements lie: nowhere, or in a block -/
theorem RSl.two {w : World} {v : Value} {s : List Rg} (hv : RSl w v s) : (s = [] ∧ ∃ a cap, v = .slice a 0 cap) ∨ (∃ g o cap n, v = .slice (some ⟨g, o, none⟩) n cap ∧ s.length = n ∧ 0 < n ∧ g < w.heap.size ∧ ∀ j, j < n → ∀ W, Below w.heap.size w W → W.cell? ⟨g, o + j * 2, none⟩ = some (.int .i64 s[j]!.1) ∧ W.cell? ⟨g, o + j * 2 + 1, none⟩ = some (.int .i64 s[j]!.2)) := by
  rcases Nat.eq_zero_or_pos s.length with h0 | h0
  · obtain rfl : s = [] := List.length_eq_zero_iff.1 h0
    obtain ⟨a, cap, e⟩ := hv.shape
    exact .inl ⟨rfl, a, cap, e⟩
  · obtain ⟨g, o, cap, e, hc, hg, hd⟩ := hv.at h0
    refine .inr ⟨g, o, cap, s.length, e, rfl, h0, hg, fun j hj W hW => ?_⟩
    rw [← (hd j hj).1, ← (hd j hj).2]
    exact ⟨World.cell?_of_block (w := w) (hW.block g hg), World.cell?_of_block (w := w) (hW.block g hg)⟩
def RelH (w : World) (R : Bool) (s : List Rg) (n : Int) (iv : Value) (wr : World) : Prop :=
  ∃ i : Nat, i ≤ s.length ∧ iv = .int .i64 (i : Nat) ∧ hasB (s.drop i) n = R ∧ wr = w
set_option maxHeartbeats 2000000 in
theorem rHas_ok (w : World) (v : Value) (s : List Rg) (n : Int) (hv : RSl w v s) (hn : s.length ≤ 1000000000) :
    Calls Tryz.prog 95 #[v, .int .i64 n] w fun e w' => e = .returned (.bool (hasB s n)) ∧ w' = w := by
  obtain ⟨R, hR⟩ : ∃ R, hasB s n = R := ⟨_, rfl⟩
  rw [hR]
  have H0 := Lib.hid (show RelH w R s n (.int .i64 0) w from ⟨0, Nat.zero_le _, rfl, hR, rfl⟩)
  rcases hv.two with ⟨rfl, a, cap, rfl⟩ | ⟨g, o, cap, m, rfl, hsn, h0, hg, hd⟩
  · obtain rfl : R = false := hR.symm
    clear hv hn hR
    go_enter Tryz.func95, Tryz.ntmps95
    go_wp2_with fail
    go_loopw [5] (fun iv wr => iv = .int .i64 0 ∧ wr = w) (fun _ _ => 0)
    case atStart => exact ⟨rfl, rfl⟩
    case round =>
      obtain ⟨rfl, rfl⟩ := hrel
      go_wp2_with fail
      go_ret
      exact ⟨rfl, rfl⟩
  · have HD := Lib.hid hd
    have HSN := Lib.hid hsn
    rw [hsn] at hn
    have HG := Lib.hid hg
    clear hv hd hsn hg hR
    go_enter Tryz.func95, Tryz.ntmps95
    go_wp2_with fail
    go_loopw [5] (fun iv wr => RelH w R s n iv wr) (fun iv _ => m - (Lib.intOf iv).toNat)
    case atStart => exact H0.out
    case round =>
      clear H0
      obtain ⟨i, hi, rfl, hR, rfl⟩ := hrel
      by_cases hlt : i < m
      · have q1 : decide ((i : Int) < (m : Int)) = true := decide_eq_true (by omega)
        have q1n : decide (i < m) = true := decide_eq_true hlt
        have q3 : IntKind.i64.wrap ((i : Int) + 1) = ((i + 1 : Nat) : Int) := wrap_succ hlt (by omega)
        have hil : i < s.length := by have := HSN.out; omega
        obtain ⟨c1, c2⟩ := HD.out i hlt _ (Below.refl _ _)
        rw [fdrop_get hil, hasB_cons] at hR
        obtain ⟨x, hx⟩ : ∃ x, s[i]!.1 = x := ⟨_, rfl⟩
        obtain ⟨y, hy⟩ : ∃ y, s[i]!.2 = y := ⟨_, rfl⟩
        rw [hx] at c1 hR
        rw [hy] at c2 hR
        by_cases hx1 : x ≤ n
        · have q4 : decide (x ≤ n) = true := decide_eq_true hx1
          by_cases hy1 : n ≤ y
          · have q5 : decide (n ≤ y) = true := decide_eq_true hy1
            rw [q4, q5] at hR
            obtain rfl : R = true := by rw [← hR]; rfl
            clear hR hx hy
            go_wp2_with fail
            go_ret
            exact ⟨rfl, rfl⟩
          · have q5 : decide (n ≤ y) = false := decide_eq_false hy1
            rw [q4, q5, Bool.and_false, Bool.false_or] at hR
            have HR := Lib.hid hR
            clear hR hx hy
            go_wp2_with fail
            go_roundw
            case rel => exact ⟨i + 1, hil, rfl, HR.out, rfl⟩
            case measure => simp only [Lib.intOf]; omega
        · have q4 : decide (x ≤ n) = false := decide_eq_false hx1
          rw [q4, Bool.false_and, Bool.false_or] at hR
          have HR := Lib.hid hR
          clear hR hx hy
          go_wp2_with fail
          go_roundw
          case rel => exact ⟨i + 1, hil, rfl, HR.out, rfl⟩
          case measure => simp only [Lib.intOf]; omega
      · have q1 : decide ((i : Int) < (m : Int)) = false := decide_eq_false (by omega)
        have q1n : decide (i < m) = false := decide_eq_false hlt
        rw [List.drop_of_length_le (by have := HSN.out; omega)] at hR
        obtain rfl : R = false := hR.symm
        clear hR
        go_wp2_with fail
        go_ret
        exact ⟨rfl, rfl⟩

/-! ### Same -/
def RelES (w : World) (a b : List Rg) (iv : Value) (wr : World) : Prop :=
  ∃ i : Nat, i ≤ a.length ∧ iv = .int .i64 (i : Nat) ∧ (∀ j, j < i → a[j]! = b[j]!) ∧ Below w.heap.size w wr
theorem list_eq_of {a b : List Rg} (hl : a.length = b.length) (h : ∀ j, j < a.length → a[j]! = b[j]!) : a = b :=
  List.ext_getElem hl fun i h1 h2 => by
    have := h i h1
    rwa [getElem!_pos a i h1, getElem!_pos b i h2] at this
set_option maxHeartbeats 4000000 in
theorem Same_ok (w : World) (va vb : Value) (a b : List Rg) (ha : RSl w va a) (hb : RSl w vb b) (hn : a.length ≤ 1000000000) :
    Calls Tryz.prog 261 #[va, vb] w fun e w' => e = .returned (.bool (decide (a = b))) ∧ Below w.heap.size w w' := by
  obtain ⟨sa, ca, ea⟩ := ha.shape
  obtain ⟨sb, cb, eb⟩ := hb.shape
  by_cases hlen : a.length = b.length
  · rcases ha.two with ⟨rfl, s2, c2, rfl⟩ | ⟨g, o, cap, m, rfl, hsn, h0, hg, hd⟩
    · obtain rfl : b = [] := List.length_eq_zero_iff.1 hlen.symm
      subst eb
      rw [show decide (([] : List Rg) = []) = true from rfl]
      simp only [List.length_nil]
      clear ha hb hlen hn ea
      go_enter Tryz.func261, Tryz.ntmps261
      go_wp2_with fail
      go_loopw [5] (fun iv wr => iv = .int .i64 0 ∧ wr = w) (fun _ _ => 0)
      case atStart => exact ⟨rfl, rfl⟩
      case round =>
        obtain ⟨rfl, rfl⟩ := hrel
        go_wp2_with fail
        go_ret
        exact ⟨rfl, Below.refl _ _⟩
    · rcases hb.two with ⟨rfl, _⟩ | ⟨g2, o2, cap2, m2, rfl, hsn2, h02, hg2, hd2⟩
      · rw [hsn] at hlen; simp at hlen; omega
      · obtain rfl : m2 = m := by omega
        have HD := Lib.hid hd
        have HD2 := Lib.hid hd2
        have HSN := Lib.hid hsn
        have HLEN := Lib.hid hlen
        rw [hsn] at hn
        have HG := Lib.hid hg
        have HG2 := Lib.hid hg2
        have qn : (((m2 : Nat) : Int) != ((m2 : Nat) : Int)) = false := by simp
        obtain ⟨R, hR⟩ : ∃ R, decide (a = b) = R := ⟨_, rfl⟩
        rw [hR]
        have HR := Lib.hid hR
        clear ha hb hd hd2 hsn hsn2 hlen hg hg2 ea eb hR
        go_enter Tryz.func261, Tryz.ntmps261
        go_wp2_with fail
        go_loopw [5] (fun iv wr => RelES w a b iv wr) (fun iv _ => m2 - (Lib.intOf iv).toNat)
        case atStart => exact ⟨0, Nat.zero_le _, rfl, fun j hj => absurd hj (Nat.not_lt_zero _), Below.refl _ _⟩
        case round =>
          obtain ⟨i, hi, rfl, heq, hbel⟩ := hrel
          have HB := Lib.hid hbel
          have HE := Lib.hid heq
          clear hbel heq
          by_cases hlt : i < m2
          · have q1 : decide ((i : Int) < (m2 : Int)) = true := decide_eq_true (by omega)
            have q1n : decide (i < m2) = true := decide_eq_true hlt
            have q3 : IntKind.i64.wrap ((i : Int) + 1) = ((i + 1 : Nat) : Int) := wrap_succ hlt (by omega)
            have hil : i < a.length := by have := HSN.out; omega
            have x1 : (i : Int) < (m2 : Int) := by omega
            obtain ⟨c1, c2⟩ := HD.out i hlt wr HB.out
            obtain ⟨c3, c4⟩ := HD2.out i hlt wr HB.out
            have hg1 : g < wr.heap.size := Nat.lt_of_lt_of_le HG.out HB.out.size
            have hg2 : g2 < wr.heap.size := Nat.lt_of_lt_of_le HG2.out HB.out.size
            have HNE := Lib.hid (show a[i]! ≠ b[i]! → R = false from fun h => HR.out.symm.trans (decide_eq_false (fun e => h (by rw [e]))))
            have HEX := Lib.hid (show ∀ p q : Rg, a[i]! = p → b[i]! = q → p = q → ∀ j, j < i + 1 → a[j]! = b[j]! from fun p q e1 e2 e3 j hj => by
              rcases Nat.lt_or_ge j i with h | h
              · exact HE.out j h
              · obtain rfl : j = i := by omega
                rw [e1, e2, e3])
            obtain ⟨p, hp⟩ : ∃ p, a[i]! = p := ⟨_, rfl⟩
            obtain ⟨q, hq⟩ : ∃ q, b[i]! = q := ⟨_, rfl⟩
            have HPQ := Lib.hid (And.intro hp hq)
            rw [hp] at c1 c2 HNE
            rw [hq] at c3 c4 HNE
            obtain ⟨p1, p2⟩ := p
            obtain ⟨r1, r2⟩ := q
            simp only at c1 c2 c3 c4
            clear hp hq
            by_cases h1 : p1 = r1
            · subst h1
              have qa : (p1 != p1) = false := by simp
              by_cases h2 : p2 = r2
              · subst h2
                have qb : (p2 != p2) = false := by simp
                have HEX2 := Lib.hid (HEX.out _ _ HPQ.out.1 HPQ.out.2 rfl)
                go_wp2_with fail
                go_quiet (fail)
                clear c1 c2 c3 c4
                go_wp2_with fail
                go_roundw
                case rel => exact ⟨i + 1, hil, rfl, HEX2.out, ⟨HB.out.os, HB.out.tape, HB.out.output, HB.out.size, HB.out.block⟩⟩
                case measure => simp only [Lib.intOf]; omega
              · have qb : (p2 != r2) = true := by simpa using h2
                have qb2 : (p2 == r2) = false := by simpa using h2
                obtain rfl : R = false := HNE.out (by intro e; injection e; contradiction)
                clear HNE HR
                go_wp2_with fail
                go_quiet (fail)
                clear c1 c2 c3 c4
                go_wp2_with fail
                go_ret
                exact ⟨rfl, ⟨HB.out.os, HB.out.tape, HB.out.output, HB.out.size, HB.out.block⟩⟩
            · have qa : (p1 != r1) = true := by simpa using h1
              have qa2 : (p1 == r1) = false := by simpa using h1
              obtain rfl : R = false := HNE.out (by intro e; injection e; contradiction)
              clear HNE HR
              go_wp2_with fail
              go_quiet (fail)
              clear c1 c2 c3 c4
              go_wp2_with fail
              go_ret
              exact ⟨rfl, ⟨HB.out.os, HB.out.tape, HB.out.output, HB.out.size, HB.out.block⟩⟩
          · have q1 : decide ((i : Int) < (m2 : Int)) = false := decide_eq_false (by omega)
            have q1n : decide (i < m2) = false := decide_eq_false hlt
            obtain rfl : R = true := HR.out.symm.trans (decide_eq_true (list_eq_of HLEN.out (fun j hj => HE.out j (by have := HSN.out; omega))))
            go_wp2_with fail
            go_ret
            exact ⟨rfl, HB.out⟩
  · subst ea
    subst eb
    rw [show decide (a = b) = false from decide_eq_false (fun e => hlen (by rw [e]))]
    obtain ⟨la, hla⟩ : ∃ la, a.length = la := ⟨_, rfl⟩
    obtain ⟨lb, hlb⟩ : ∃ lb, b.length = lb := ⟨_, rfl⟩
    rw [hla, hlb] at hlen ⊢
    have qn : (((la : Nat) : Int) != ((lb : Nat) : Int)) = true := by simp; omega
    have qn2 : (((la : Nat) : Int) == ((lb : Nat) : Int)) = false := by simp; omega
    clear ha hb hla hlb hn
    go_enter Tryz.func261, Tryz.ntmps261
    go_wp2_with fail
    go_ret
    exact ⟨rfl, Below.refl _ _⟩
end Go.Proofs.YtjhecpkdpomkmaaGreat

namespace Go.Proofs.YtjhecpkdpomkmaaGreat
open Go.RowKit Go.Shelf
set_option linter.unusedVariables false
set_option linter.unusedSimpArgs false
set_option maxRecDepth 100000

def i64sS (l : List Int) : List Value := l.map (Value.int .i64)
theorem i64s_one (l : List Int) : ∀ u ∈ i64sS l, u.oneCell' = true := by
  intro u hu
  unfold i64sS at hu
  rw [List.mem_map] at hu
  obtain ⟨x, _, rfl⟩ := hu
  rfl
theorem i64s_get {l : List Int} {j : Nat} {u : Value} (h : (i64sS l)[j]? = some u) : j < l.length ∧ u = .int .i64 l[j]! := by
  unfold i64sS at h
  rw [List.getElem?_map] at h
  by_cases hj : j < l.length
  · rw [List.getElem?_eq_getElem hj] at h
    refine ⟨hj, ?_⟩
    rw [getElem!_pos l j hj]
    exact (Option.some.inj h).symm
  · rw [List.getElem?_eq_none (by omega)] at h
    cases h
def ISl (w : World) (v : Value) (l : List Int) : Prop := Bi l ∧ ∃ g o cap, v = .slice (some ⟨g, o, none⟩) l.length cap ∧ l.length ≤ cap ∧ g < w.heap.size ∧ ∀ i, i < l.length → w.cell? ⟨g, o + i, none⟩ = some (.int .i64 l[i]!)
theorem ISl.below {w w' : World} {v : Value} {l : List Int} (h : ISl w v l) (hb : Below w.heap.size w w') : ISl w' v l := by
  obtain ⟨h1, g, o, cap, e, hc, hg, hd⟩ := h
  refine ⟨h1, g, o, cap, e, hc, Nat.lt_of_lt_of_le hg hb.size, fun i hi => ?_⟩
  rw [← hd i hi]
  exact World.cell?_of_block (w := w) (hb.block g hg)
theorem info_i64S : (Tryz.prog.info? 3).map (fun i => (i.zero, i.size, i.bytes)) = some (some (.int .i64 0), 1, 8) := by kernel_rfl
theorem ownI_isl {base : Nat} {w : World} {v : Value} {l : List Int} {n : Nat} (h : w.ownsRow base 3 1 v n (i64sS l)) (hn : n = l.length) (h0 : 0 < n) (hb : Bi l) : ISl w v l := by
  subst hn
  refine ⟨hb, ?_⟩
  rcases h.2 with ⟨_, h00⟩ | ⟨g, cap, cur, hv, hg, hh, hc, hm, hs, ht⟩
  · omega
  · refine ⟨g, 0, cap, hv, hc, (Array.getElem?_eq_some_iff.1 hh).1, fun i hi => ?_⟩
    have hcells := World.ownsRow.cells h (g := g) (by rw [hv]; rfl) i (.int .i64 l[i]!) (by unfold i64sS; rw [List.getElem?_map, List.getElem?_eq_getElem hi, getElem!_pos l i hi]; rfl)
    rw [Addr.add_mid] at hcells
    exact hcells
theorem new_int (w : World) (x : Int) : ∀ j u, [Value.int .i64 x][j]? = some u → (w.alloc (.cells #[.int .i64 x] 3)).cell? ((⟨w.heap.size, 0, none⟩ : Addr).add j) = some u := by
  intro j u hj
  rw [Addr.add_mid, Nat.zero_add]
  match j, hj with
  | 0, hj => obtain rfl : Value.int .i64 x = u := Option.some.inj hj; simp
theorem grown_below {base : Nat} {W w w4 : World} {v : Value} {e : TypeId} {s n : Nat} {xs : List Value} (hb : Below base W w) (ho : w.ownsRow base e s v n xs) (hBw : base ≤ w.heap.size) (hg : w.grownBy w4 v.ownBlock) : Below base W w4 :=
  hb.grown hg hBw (fun k hk => (ho.lt k hk).1)
def RelKS (w : World) (l : List Int) (n : Int) (kv : Value) (wr : World) : Prop :=
  ∃ k : Nat, k ≤ l.length ∧ kv = .int .i64 (k : Nat) ∧ (∀ j, j < k → l[j]! < n) ∧ w = wr
theorem isplit {l : List Int} {k : Nat} (h : k < l.length) : l = l.take k ++ l[k]! :: l.drop (k + 1) := by
  conv => lhs; rw [← List.take_append_drop k l, List.drop_eq_getElem_cons h]
  rw [getElem!_pos l k h]
theorem pl_here {l : List Int} {k : Nat} {n : Int} (hs : Srt l) (h : k < l.length) (he : l[k]! = n) : Pl l n l := by
  have e := isplit h
  rw [e] at hs ⊢
  exact Pl.here (B := l.drop (k + 1)) (A := l.take k) (y := l[k]!) hs he
theorem pl_new {l : List Int} {k : Nat} {n : Int} (hs : Srt l) (hk : k ≤ l.length) (hA : ∀ j, j < k → l[j]! < n) (hB : k < l.length → n < l[k]!) : Pl l n (l.take k ++ [n] ++ l.drop k) := by
  have e := (List.take_append_drop k l).symm
  have := Pl.new (A := l.take k) (B := l.drop k) (n := n) (by rw [← e]; exact hs) ?_ ?_
  · rw [← e] at this
    exact this
  · intro x hx
    obtain ⟨j, hj, rfl⟩ := List.mem_iff_getElem.1 hx
    rw [List.length_take] at hj
    have := hA j (by omega)
    rw [getElem!_pos l j (by omega)] at this
    rw [List.getElem_take]
    exact this
  · intro x hx
    by_cases h : k < l.length
    · rw [List.drop_eq_getElem_cons h] at hx
      obtain rfl : l[k] = x := Option.some.inj (show some l[k] = some x from hx)
      have := hB h
      rwa [getElem!_pos l k h] at this
    · rw [List.drop_of_length_le (by omega)] at hx
      simp at hx
theorem pl_bi {l l' : List Int} {n : Int} (h : Pl l n l') (hb : Bi l) (hn : I64 n) : Bi l' := fun x hx => ((h.mem x).1 hx).elim (fun e => e ▸ hn) (hb x)
set_option maxHeartbeats 4000000 in
theorem place_ok (w : World) (v : Value) (l : List Int) (n : Int) (hv : ISl w v l) (hs : Srt l) (hi : I64 n) (hn : l.length ≤ 1000000) :
    Calls Tryz.prog 319 #[v, .int .i64 n] w fun e w' => ∃ v' l', e = .returned v' ∧ ISl w' v' l' ∧ Pl l n l' ∧ Below w.heap.size w w' := by
  obtain ⟨i0, hi0, hz0, hz1, hz2⟩ := info_parts info_i64S
  have HV := Lib.hid hv
  obtain ⟨hbi, g, o, cap, rfl, hcap, hg, hd⟩ := hv
  have HBI := Lib.hid hbi
  have HSR := Lib.hid hs
  have HIN := Lib.hid hi
  obtain ⟨m, hm⟩ : ∃ m, l.length = m := ⟨_, rfl⟩
  rw [hm] at hcap hn hd ⊢
  have HM := Lib.hid hm
  have HD := Lib.hid (fun j (hj : j < m) (W : World) (hW : Below w.heap.size w W) => (World.cell?_of_block (w := w) (a := ⟨g, o + j, none⟩) (hW.block g hg)).trans (hd j hj))
  clear hbi hs hi hm hd
  rw [HM.out] at HV
  go_enter Tryz.func319, Tryz.ntmps319
  go_wp2_with fail
  go_loopw [5] (fun kv wr => RelKS w l n kv wr) (fun kv _ => m - (Lib.intOf kv).toNat)
  case atStart => exact ⟨0, Nat.zero_le _, rfl, fun j hj => absurd hj (Nat.not_lt_zero _), rfl⟩
  case round =>
    obtain ⟨k, hk, rfl, hlt, rfl⟩ := hrel
    have HLT := Lib.hid hlt
    rw [HM.out] at hk
    clear hlt
    by_cases hkm : k < m
    · have q1 : decide ((k : Int) < (m : Int)) = true := decide_eq_true (by omega)
      have q1n : decide (k < m) = true := decide_eq_true hkm
      have q3 : IntKind.i64.wrap ((k : Int) + 1) = ((k + 1 : Nat) : Int) := wrap_succ hkm (by omega)
      have c1 := HD.out k hkm _ (Below.refl _ _)
      obtain ⟨x, hx⟩ : ∃ x, l[k]! = x := ⟨_, rfl⟩
      rw [hx] at c1
      have HX := Lib.hid hx
      clear hx
      by_cases h1 : x < n
      · have q4 : decide (x < n) = true := decide_eq_true h1
        have HLT2 := Lib.hid (show ∀ j, j < k + 1 → l[j]! < n from fun j hj => by
          rcases Nat.lt_or_ge j k with h | h
          · exact HLT.out j h
          · obtain rfl : j = k := by omega
            rw [HX.out]; exact h1)
        go_wp2_with fail
        go_roundw
        case rel => exact ⟨k + 1, by rw [HM.out]; exact hkm, rfl, HLT2.out, rfl⟩
        case measure => simp only [Lib.intOf]; omega
      · have q4 : decide (x < n) = false := decide_eq_false h1
        by_cases h2 : x = n
        · have q5 : (x == n) = true := by rw [h2]; simp
          have HP := Lib.hid (pl_here HSR.out (by rw [HM.out]; exact hkm) (HX.out.trans h2))
          clear h2
          go_wp2_with fail
          go_ret
          exact ⟨_, rfl, l, HV.out, HP.out, Below.refl _ _⟩
        · have q5 : (x == n) = false := beq_false_of_ne h2
          have HP := Lib.hid (pl_new (n := n) HSR.out (by rw [HM.out]; exact hk) HLT.out (fun _ => by rw [HX.out]; omega))
          have x1 : (k : Int) ≤ (m : Int) := by omega
          have x2 : (k : Int) ≤ (cap : Int) := by omega
          have x3 : (m : Int) ≤ (cap : Int) := by omega
          have x4 : (0 : Int) ≤ (k : Int) := by omega
          have hkc : k ≤ cap := by omega
          have HL1 := Lib.hid (show (i64sS (l.take k)).length = k * 1 by unfold i64sS; rw [List.length_map, List.length_take, HM.out]; omega)
          have HL3 := Lib.hid (show (i64sS (l.drop k)).length = (m - k) * 1 by unfold i64sS; rw [List.length_map, List.length_drop, HM.out]; omega)
          have HN1 := Lib.hid (show ∀ j u, (i64sS (l.take k))[j]? = some u → w.cell? ((⟨g, o, none⟩ : Addr).add j) = some u from fun j u hu => by
            obtain ⟨hj, rfl⟩ := i64s_get hu
            rw [List.length_take] at hj
            rw [Addr.add_mid, HD.out j (by have := HM.out; omega) w (Below.refl _ _)]
            congr 2
            rw [getElem!_pos l j (by have := HM.out; omega), getElem!_pos (l.take k) j (by rw [List.length_take]; omega), List.getElem_take])
          have HN3 := Lib.hid (show ∀ W, Below w.heap.size w W → ∀ j u, (i64sS (l.drop k))[j]? = some u → W.cell? ((⟨g, o + k, none⟩ : Addr).add j) = some u from fun W hW j u hu => by
            obtain ⟨hj, rfl⟩ := i64s_get hu
            rw [List.length_drop] at hj
            have e : ((⟨g, o + k, none⟩ : Addr).add j) = ⟨g, o + (k + j), none⟩ := by rw [Addr.add_mid, Nat.add_assoc]
            rw [e, HD.out (k + j) (by have := HM.out; omega) W hW]
            congr 2
            rw [getElem!_pos l (k + j) (by have := HM.out; omega), getElem!_pos (l.drop k) j (by rw [List.length_drop]; omega), List.getElem_drop])
          have HFIN := Lib.hid (show ∀ w3 v3, w3.ownsRow w.heap.size 3 1 v3 (0 + k + 1 + (m - k)) ([] ++ i64sS (l.take k) ++ [.int .i64 n] ++ i64sS (l.drop k)) → ISl w3 v3 (l.take k ++ [n] ++ l.drop k) from fun w3 v3 h => by
            refine ownI_isl (n := 0 + k + 1 + (m - k)) (base := w.heap.size) ?_ ?_ (by omega) (pl_bi HP.out HBI.out HIN.out)
            · have e : i64sS (l.take k ++ [n] ++ l.drop k) = [] ++ i64sS (l.take k) ++ [.int .i64 n] ++ i64sS (l.drop k) := by simp [i64sS]
              rw [e]
              exact h
            · simp only [List.length_append, List.length_take, List.length_drop, List.length_singleton, HM.out]; omega)
          have hck : ¬ cap = k := by omega
          go_wp2_with (first | (at_builtin; refine wpList_append_own _ rfl (.tmp 34) (.tmp 37) 44 rfl w.heap.size 3 i0 (.int .i64 0) 1 8 Tryz.underlying44 hi0 hz0 hz1 hz2 rfl (by decide) _ 0 [] rfl (World.ownsRow_nil _ _ _ _) ⟨g, o, none⟩ k cap (i64sS (l.take k)) rfl HL1.out HN1.out (i64s_one _) (by unfold maxLen; omega) (by omega) (Nat.le_refl _) ?_; intro v1 w1 hown1 hgr1 _; have HO1 := Lib.hid hown1; have HB1 := Lib.hid (grown_below (Below.refl w.heap.size w) (World.ownsRow_nil w w.heap.size 3 1) (Nat.le_refl _) hgr1); clear hown1 hgr1) | (at_builtin; refine wpList_append_own _ rfl (.tmp 39) (.tmp 41) 44 rfl w.heap.size 3 i0 (.int .i64 0) 1 8 Tryz.underlying44 hi0 hz0 hz1 hz2 rfl (by decide) _ (0 + k) ([] ++ i64sS (l.take k)) rfl (World.ownsRow.alloc HO1.out _) ⟨w1.heap.size, 0, none⟩ 1 1 [.int .i64 n] rfl rfl (new_int _ _) (i64s_one [n]) (by unfold maxLen; omega) (by omega) (by have := HB1.out.size; simp; omega) ?_; intro v2 w2 hown2 hgr2 _; have HO2 := Lib.hid hown2; have HB2 := Lib.hid (grown_below (HB1.out.alloc HB1.out.size (.cells #[.int .i64 n] 3)) (World.ownsRow.alloc HO1.out _) (by have := HB1.out.size; simp; omega) hgr2); clear hown2 hgr2) | (at_builtin; refine wpList_append_own _ rfl (.tmp 43) (.tmp 46) 44 rfl w.heap.size 3 i0 (.int .i64 0) 1 8 Tryz.underlying44 hi0 hz0 hz1 hz2 rfl (by decide) _ (0 + k + 1) ([] ++ i64sS (l.take k) ++ [Value.int .i64 n]) rfl HO2.out ⟨g, o + k, none⟩ (m - k) (cap - k) (i64sS (l.drop k)) rfl HL3.out (HN3.out w2 HB2.out) (i64s_one _) (by unfold maxLen; omega) (by omega) HB2.out.size ?_; intro v3 w3 hown3 hgr3 _; have HO3 := Lib.hid hown3; have HB3 := Lib.hid (grown_below HB2.out HO2.out HB2.out.size hgr3); clear hown3 hgr3))
          go_ret
          exact ⟨_, rfl, _, HFIN.out _ _ HO3.out, HP.out, HB3.out⟩
    · have q1 : decide ((k : Int) < (m : Int)) = false := decide_eq_false (by omega)
      have q1n : decide (k < m) = false := decide_eq_false hkm
      have HP := Lib.hid (pl_new (n := n) HSR.out (by rw [HM.out]; exact hk) HLT.out (fun h => absurd h (by rw [HM.out]; exact hkm)))
      have x1 : (k : Int) ≤ (m : Int) := by omega
      have x2 : (k : Int) ≤ (cap : Int) := by omega
      have x3 : (m : Int) ≤ (cap : Int) := by omega
      have x4 : (0 : Int) ≤ (k : Int) := by omega
      have hkc : k ≤ cap := by omega
      have HL1 := Lib.hid (show (i64sS (l.take k)).length = k * 1 by unfold i64sS; rw [List.length_map, List.length_take, HM.out]; omega)
      have HL3 := Lib.hid (show (i64sS (l.drop k)).length = (m - k) * 1 by unfold i64sS; rw [List.length_map, List.length_drop, HM.out]; omega)
      have HN1 := Lib.hid (show ∀ j u, (i64sS (l.take k))[j]? = some u → w.cell? ((⟨g, o, none⟩ : Addr).add j) = some u from fun j u hu => by
        obtain ⟨hj, rfl⟩ := i64s_get hu
        rw [List.length_take] at hj
        rw [Addr.add_mid, HD.out j (by have := HM.out; omega) w (Below.refl _ _)]
        congr 2
        rw [getElem!_pos l j (by have := HM.out; omega), getElem!_pos (l.take k) j (by rw [List.length_take]; omega), List.getElem_take])
      have HN3 := Lib.hid (show ∀ W, Below w.heap.size w W → ∀ j u, (i64sS (l.drop k))[j]? = some u → W.cell? ((⟨g, o + k, none⟩ : Addr).add j) = some u from fun W hW j u hu => by
        obtain ⟨hj, rfl⟩ := i64s_get hu
        rw [List.length_drop] at hj
        have e : ((⟨g, o + k, none⟩ : Addr).add j) = ⟨g, o + (k + j), none⟩ := by rw [Addr.add_mid, Nat.add_assoc]
        rw [e, HD.out (k + j) (by have := HM.out; omega) W hW]
        congr 2
        rw [getElem!_pos l (k + j) (by have := HM.out; omega), getElem!_pos (l.drop k) j (by rw [List.length_drop]; omega), List.getElem_drop])
      have HFIN := Lib.hid (show ∀ w3 v3, w3.ownsRow w.heap.size 3 1 v3 (0 + k + 1 + (m - k)) ([] ++ i64sS (l.take k) ++ [.int .i64 n] ++ i64sS (l.drop k)) → ISl w3 v3 (l.take k ++ [n] ++ l.drop k) from fun w3 v3 h => by
        refine ownI_isl (n := 0 + k + 1 + (m - k)) (base := w.heap.size) ?_ ?_ (by omega) (pl_bi HP.out HBI.out HIN.out)
        · have e : i64sS (l.take k ++ [n] ++ l.drop k) = [] ++ i64sS (l.take k) ++ [.int .i64 n] ++ i64sS (l.drop k) := by simp [i64sS]
          rw [e]
          exact h
        · simp only [List.length_append, List.length_take, List.length_drop, List.length_singleton, HM.out]; omega)
      by_cases hck : cap = k
      · have hmk : m = k := by omega
        have HMK := Lib.hid hmk
        have HFIN2 := Lib.hid (show ∀ w3 v3, w3.ownsRow w.heap.size 3 1 v3 (0 + k + 1 + 0) ([] ++ i64sS (l.take k) ++ [.int .i64 n] ++ []) → ISl w3 v3 (l.take k ++ [n] ++ l.drop k) from fun w3 v3 h => by
          refine HFIN.out w3 v3 ?_
          have e1 : m - k = 0 := by omega
          have e2 : l.drop k = [] := List.drop_of_length_le (by rw [HM.out]; omega)
          rw [e1, e2]
          exact h)
        clear hmk
        subst hck
        obtain rfl := HMK.out
        clear HMK
        go_wp2_with (first | (at_builtin; refine wpList_append_own _ rfl (.tmp 34) (.tmp 37) 44 rfl w.heap.size 3 i0 (.int .i64 0) 1 8 Tryz.underlying44 hi0 hz0 hz1 hz2 rfl (by decide) _ 0 [] rfl (World.ownsRow_nil _ _ _ _) ⟨g, o, none⟩ m m (i64sS (l.take m)) rfl HL1.out HN1.out (i64s_one _) (by unfold maxLen; omega) (by omega) (Nat.le_refl _) ?_; intro v1 w1 hown1 hgr1 _; have HO1 := Lib.hid hown1; have HB1 := Lib.hid (grown_below (Below.refl w.heap.size w) (World.ownsRow_nil w w.heap.size 3 1) (Nat.le_refl _) hgr1); clear hown1 hgr1) | (at_builtin; refine wpList_append_own _ rfl (.tmp 39) (.tmp 41) 44 rfl w.heap.size 3 i0 (.int .i64 0) 1 8 Tryz.underlying44 hi0 hz0 hz1 hz2 rfl (by decide) _ (0 + m) ([] ++ i64sS (l.take m)) rfl (World.ownsRow.alloc HO1.out _) ⟨w1.heap.size, 0, none⟩ 1 1 [.int .i64 n] rfl rfl (new_int _ _) (i64s_one [n]) (by unfold maxLen; omega) (by omega) (by have := HB1.out.size; simp; omega) ?_; intro v2 w2 hown2 hgr2 _; have HO2 := Lib.hid hown2; have HB2 := Lib.hid (grown_below (HB1.out.alloc HB1.out.size (.cells #[.int .i64 n] 3)) (World.ownsRow.alloc HO1.out _) (by have := HB1.out.size; simp; omega) hgr2); clear hown2 hgr2) | (at_builtin; refine wpList_append_own _ rfl (.tmp 43) (.tmp 46) 44 rfl w.heap.size 3 i0 (.int .i64 0) 1 8 Tryz.underlying44 hi0 hz0 hz1 hz2 rfl (by decide) _ (0 + m + 1) ([] ++ i64sS (l.take m) ++ [Value.int .i64 n]) rfl HO2.out ⟨g, o, none⟩ 0 0 [] rfl rfl (fun j u hu => by simp at hu) (fun u hu => by simp at hu) (by unfold maxLen; omega) (by omega) HB2.out.size ?_; intro v3 w3 hown3 hgr3 _; have HO3 := Lib.hid hown3; have HB3 := Lib.hid (grown_below HB2.out HO2.out HB2.out.size hgr3); clear hown3 hgr3))
        go_ret
        exact ⟨_, rfl, _, HFIN2.out _ _ HO3.out, HP.out, HB3.out⟩
      go_wp2_with (first | (at_builtin; refine wpList_append_own _ rfl (.tmp 34) (.tmp 37) 44 rfl w.heap.size 3 i0 (.int .i64 0) 1 8 Tryz.underlying44 hi0 hz0 hz1 hz2 rfl (by decide) _ 0 [] rfl (World.ownsRow_nil _ _ _ _) ⟨g, o, none⟩ k cap (i64sS (l.take k)) rfl HL1.out HN1.out (i64s_one _) (by unfold maxLen; omega) (by omega) (Nat.le_refl _) ?_; intro v1 w1 hown1 hgr1 _; have HO1 := Lib.hid hown1; have HB1 := Lib.hid (grown_below (Below.refl w.heap.size w) (World.ownsRow_nil w w.heap.size 3 1) (Nat.le_refl _) hgr1); clear hown1 hgr1) | (at_builtin; refine wpList_append_own _ rfl (.tmp 39) (.tmp 41) 44 rfl w.heap.size 3 i0 (.int .i64 0) 1 8 Tryz.underlying44 hi0 hz0 hz1 hz2 rfl (by decide) _ (0 + k) ([] ++ i64sS (l.take k)) rfl (World.ownsRow.alloc HO1.out _) ⟨w1.heap.size, 0, none⟩ 1 1 [.int .i64 n] rfl rfl (new_int _ _) (i64s_one [n]) (by unfold maxLen; omega) (by omega) (by have := HB1.out.size; simp; omega) ?_; intro v2 w2 hown2 hgr2 _; have HO2 := Lib.hid hown2; have HB2 := Lib.hid (grown_below (HB1.out.alloc HB1.out.size (.cells #[.int .i64 n] 3)) (World.ownsRow.alloc HO1.out _) (by have := HB1.out.size; simp; omega) hgr2); clear hown2 hgr2) | (at_builtin; refine wpList_append_own _ rfl (.tmp 43) (.tmp 46) 44 rfl w.heap.size 3 i0 (.int .i64 0) 1 8 Tryz.underlying44 hi0 hz0 hz1 hz2 rfl (by decide) _ (0 + k + 1) ([] ++ i64sS (l.take k) ++ [Value.int .i64 n]) rfl HO2.out ⟨g, o + k, none⟩ (m - k) (cap - k) (i64sS (l.drop k)) rfl HL3.out (HN3.out w2 HB2.out) (i64s_one _) (by unfold maxLen; omega) (by omega) HB2.out.size ?_; intro v3 w3 hown3 hgr3 _; have HO3 := Lib.hid hown3; have HB3 := Lib.hid (grown_below HB2.out HO2.out HB2.out.size hgr3); clear hown3 hgr3))
      go_ret
      exact ⟨_, _, rfl, HFIN.out _ _ HO3.out, HP.out, HB3.out⟩
end Go.Proofs.YtjhecpkdpomkmaaGreat

namespace Go.Proofs.YtjhecpkdpomkmaaGreat
open Go.RowKit Go.Shelf
set_option linter.unusedVariables false
set_option linter.unusedSimpArgs false
set_option maxRecDepth 100000

/-- the numbers L hold those of L0 and all ends of s, as many as can be -/
structure StOf (L0 : List Int) (s : List Rg) (i : Nat) (L : List Int) : Prop where
  srt : Srt L
  old : ∀ x ∈ L0, x ∈ L
  cuts : Cuts L (s.take i)
  len : L.length ≤ L0.length + 2 * i
theorem Cuts.mono {L L' : List Int} {s : List Rg} (h : Cuts L s) (hl : ∀ x ∈ L, x ∈ L') : Cuts L' s := fun r hr hne => ⟨hl _ (h r hr hne).1, fun hm => hl _ ((h r hr hne).2 hm)⟩
theorem Cuts.snoc {L : List Int} {s : List Rg} {r : Rg} (h : Cuts L s) (hr : r.1 ≤ r.2 → r.1 ∈ L ∧ (r.2 < 9223372036854775807 → r.2 + 1 ∈ L)) : Cuts L (s ++ [r]) := by
  intro x hx
  rcases List.mem_append.1 hx with hx | hx
  · exact h x hx
  · obtain rfl : x = r := by simpa using hx
    exact hr
def RelS (w : World) (L0 : List Int) (s : List Rg) (lv iv : Value) (wr : World) : Prop :=
  ∃ (i : Nat) (L : List Int), i ≤ s.length ∧ iv = .int .i64 (i : Nat) ∧ ISl wr lv L ∧ StOf L0 s i L ∧ Below w.heap.size w wr
theorem StOf.none {L0 L : List Int} {s : List Rg} {i : Nat} (h : StOf L0 s i L) (hi : i < s.length) (hne : ¬ s[i]!.1 ≤ s[i]!.2) : StOf L0 s (i + 1) L :=
  ⟨h.srt, h.old, by rw [take_succ_get hi]; exact h.cuts.snoc (fun h2 => absurd h2 hne), by have := h.len; omega⟩
theorem StOf.one {L0 L L1 : List Int} {s : List Rg} {i : Nat} (h : StOf L0 s i L) (hi : i < s.length) (h1 : Pl L s[i]!.1 L1) (hm : ¬ s[i]!.2 < 9223372036854775807) : StOf L0 s (i + 1) L1 :=
  ⟨h1.srt, fun x hx => (h1.mem x).2 (.inr (h.old x hx)), by
    rw [take_succ_get hi]
    exact (h.cuts.mono (fun x hx => (h1.mem x).2 (.inr hx))).snoc (fun _ => ⟨(h1.mem _).2 (.inl rfl), fun h2 => absurd h2 hm⟩), by have := h.len; have := h1.len; omega⟩
theorem StOf.both {L0 L L1 L2 : List Int} {s : List Rg} {i : Nat} (h : StOf L0 s i L) (hi : i < s.length) (h1 : Pl L s[i]!.1 L1) (h2 : Pl L1 (s[i]!.2 + 1) L2) : StOf L0 s (i + 1) L2 :=
  ⟨h2.srt, fun x hx => (h2.mem x).2 (.inr ((h1.mem x).2 (.inr (h.old x hx)))), by
    rw [take_succ_get hi]
    exact (h.cuts.mono (fun x hx => (h2.mem x).2 (.inr ((h1.mem x).2 (.inr hx))))).snoc (fun _ => ⟨(h2.mem _).2 (.inr ((h1.mem _).2 (.inl rfl))), fun _ => (h2.mem _).2 (.inl rfl)⟩), by have := h.len; have := h1.len; have := h2.len; omega⟩
theorem ISl.shape {w : World} {v : Value} {l : List Int} (h : ISl w v l) : ∃ a cap, v = .slice a l.length cap := by
  obtain ⟨_, g, o, cap, e, _⟩ := h
  exact ⟨_, _, e⟩
set_option maxHeartbeats 4000000 in
theorem starts_ok (w : World) (lv v : Value) (L0 : List Int) (s : List Rg) (hL : ISl w lv L0) (hs : Srt L0) (hv : RSl w v s) (hn : s.length ≤ 1000) (hn0 : L0.length ≤ 10000) :
    Calls Tryz.prog 308 #[lv, v] w fun e w' => ∃ v' L, e = .returned v' ∧ ISl w' v' L ∧ StOf L0 s s.length L ∧ Below w.heap.size w w' := by
  have H0 := Lib.hid (show RelS w L0 s lv (.int .i64 0) w from ⟨0, L0, Nat.zero_le _, rfl, hL, ⟨hs, fun _ h => h, by intro r hr; simp at hr, by omega⟩, Below.refl _ _⟩)
  have HN0 := Lib.hid hn0
  rcases hv.two with ⟨rfl, a, cap, rfl⟩ | ⟨g, o, cap, m, rfl, hsn, h0, hg, hd⟩
  · clear hL hs hv hn hn0
    go_enter Tryz.func308, Tryz.ntmps308
    go_wp2_with fail
    go_loopw [0, 5] (fun lv iv wr => RelS w L0 [] lv iv wr) (fun _ _ _ => 0)
    case atStart => exact H0.out
    case round =>
      clear H0
      obtain ⟨i, L, hi, rfl, hil, hst, hbel⟩ := hrel
      obtain rfl : i = 0 := by simpa using hi
      have HI := Lib.hid hil
      have HS := Lib.hid hst
      have HB := Lib.hid hbel
      clear hil hst hbel hi
      go_wp2_with fail
      go_ret
      exact ⟨_, L, rfl, HI.out, HS.out, HB.out⟩
  · have HD := Lib.hid hd
    have HSN := Lib.hid hsn
    have HBD := Lib.hid hv.bd
    rw [hsn] at hn
    have HG := Lib.hid hg
    clear hL hs hv hd hsn hg hn0
    go_enter Tryz.func308, Tryz.ntmps308
    go_wp2_with fail
    go_loopw [0, 5] (fun lv iv wr => RelS w L0 s lv iv wr) (fun _ iv _ => m - (Lib.intOf iv).toNat)
    case atStart => exact H0.out
    case round =>
      clear H0
      obtain ⟨i, L, hi, rfl, hil, hst, hbel⟩ := hrel
      have HI := Lib.hid hil
      have HS := Lib.hid hst
      have HB := Lib.hid hbel
      have hbw := hbel.size
      clear hil hst hbel
      have hin : i ≤ m := by have := HSN.out; omega
      by_cases hlt : i < m
      · have q1 : decide ((i : Int) < (m : Int)) = true := decide_eq_true (by omega)
        have q1n : decide (i < m) = true := decide_eq_true hlt
        have q3 : IntKind.i64.wrap ((i : Int) + 1) = ((i + 1 : Nat) : Int) := wrap_succ hlt (by omega)
        have x1 : (i : Int) < (m : Int) := by omega
        have his : i < s.length := by have := HSN.out; omega
        have hgw : g < wr.heap.size := Nat.lt_of_lt_of_le HG.out hbw
        obtain ⟨c1, c2⟩ := HD.out i hlt wr HB.out
        have hb := HBD.out.get his
        have HNO := Lib.hid (fun h => HS.out.none his h)
        have HONE := Lib.hid (fun L1 h1 h2 => StOf.one (L1 := L1) HS.out his h1 h2)
        have HTWO := Lib.hid (fun L1 L2 h1 h2 => StOf.both (L1 := L1) (L2 := L2) HS.out his h1 h2)
        have HDI := Lib.hid (fun W hW => HD.out i hlt W hW)
        obtain ⟨x, hx⟩ : ∃ x, s[i]!.1 = x := ⟨_, rfl⟩
        obtain ⟨y, hy⟩ : ∃ y, s[i]!.2 = y := ⟨_, rfl⟩
        rw [hx, hy] at HNO HONE HTWO HDI hb
        rw [hx] at c1
        rw [hy] at c2
        have HBI := Lib.hid hb
        have hll : L.length ≤ 100000 := by have := HS.out.len; have := HN0.out; omega
        clear hx hy hb
        by_cases hxy : x ≤ y
        · have q4 : decide (x ≤ y) = true := decide_eq_true hxy
          go_wp2_with fail
          go_quiet (fail)
          generalize hW1 : wr.drewN _ = W1
          have hbw1 : Below wr.heap.size wr W1 := by rw [← hW1]; exact ⟨rfl, rfl, rfl, Nat.le_refl _, fun _ _ => rfl⟩
          have HB1 := Lib.hid (HB.out.trans (hbw1.mono HB.out.size))
          have HP1 := Lib.hid (place_ok W1 _ L x (HI.out.below hbw1) HS.out.srt HBI.out.1 (by omega))
          clear hW1 hbw1 c1 c2 HI HB hgw hbw
          obtain ⟨c1, c2⟩ := HDI.out W1 HB1.out
          have hgw : g < W1.heap.size := Nat.lt_of_lt_of_le HG.out HB1.out.size
          go_wp2_with fail
          refine HP1.out.mono ?_
          rintro e w2 ⟨v1, L1, rfl, h1, h2, hb⟩
          have HI2 := Lib.hid h1
          have HPL := Lib.hid h2
          have HB2 := Lib.hid (HB1.out.trans (hb.mono HB1.out.size))
          clear h1 h2 hb c1 c2 HP1 HB1 hgw
          obtain ⟨c1, c2⟩ := HDI.out w2 HB2.out
          have hgw : g < w2.heap.size := Nat.lt_of_lt_of_le HG.out HB2.out.size
          have hl1 : L1.length ≤ 200000 := by have := HPL.out.len; omega
          by_cases hm : y < 9223372036854775807
          · have q5 : decide (y < 9223372036854775807) = true := decide_eq_true hm
            obtain ⟨y1, hy1⟩ : ∃ y1, y + 1 = y1 := ⟨_, rfl⟩
            have hyi : I64 y1 := by have h1 := HBI.out.2; unfold I64 at *; omega
            have q6 : IntKind.i64.wrap (y + 1) = y1 := by rw [hy1]; exact wrap_ok hyi
            have HP2 := Lib.hid (place_ok w2 v1 L1 y1 HI2.out HPL.out.srt hyi (by omega))
            have HTW := Lib.hid (fun L2 h2 => HTWO.out L1 L2 HPL.out h2)
            rw [hy1] at HTW
            clear hy1 hyi
            go_wp2_with fail
            refine HP2.out.mono ?_
            rintro e w3 ⟨v2, L2, rfl, h1, h2, hb⟩
            have HI3 := Lib.hid h1
            have HS3 := Lib.hid (HTW.out L2 h2)
            have HB3 := Lib.hid (HB2.out.trans (hb.mono HB2.out.size))
            clear h1 h2 hb c1 c2 HP2 HB2 hgw
            go_wp2_with fail
            go_roundw
            case rel => exact ⟨i + 1, L2, his, rfl, HI3.out, HS3.out, HB3.out⟩
            case measure => simp only [Lib.intOf]; omega
          · have q5 : decide (y < 9223372036854775807) = false := decide_eq_false hm
            have HS3 := Lib.hid (HONE.out L1 HPL.out (by omega))
            go_wp2_with fail
            go_roundw
            case rel => exact ⟨i + 1, L1, his, rfl, HI2.out, HS3.out, HB2.out⟩
            case measure => simp only [Lib.intOf]; omega
        · have q4 : decide (x ≤ y) = false := decide_eq_false hxy
          have HS2 := Lib.hid (HNO.out hxy)
          go_wp2_with fail
          go_quiet (fail)
          clear c1 c2
          go_wp2_with fail
          go_roundw
          case rel => exact ⟨i + 1, L, his, rfl, HI.out.below (show Below wr.heap.size wr (wr.drewN _) from ⟨rfl, rfl, rfl, Nat.le_refl _, fun _ _ => rfl⟩), HS2.out, ⟨HB.out.os, HB.out.tape, HB.out.output, HB.out.size, HB.out.block⟩⟩
          case measure => simp only [Lib.intOf]; omega
      · have q1 : decide ((i : Int) < (m : Int)) = false := decide_eq_false (by omega)
        have q1n : decide (i < m) = false := decide_eq_false hlt
        obtain rfl : i = s.length := by have := HSN.out; omega
        go_wp2_with fail
        go_ret
        exact ⟨_, L, rfl, HI.out, HS.out, HB.out⟩
end Go.Proofs.YtjhecpkdpomkmaaGreat
