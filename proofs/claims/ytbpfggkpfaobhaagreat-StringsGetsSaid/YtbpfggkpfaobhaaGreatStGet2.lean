/-
  Package strings: getCount, getPart, get, GetOctets.
-/
import Derived.Test.YtbpfggkpfaobhaaGreatStGet
namespace Go.Proofs.YtbpfggkpfaobhaaGreat
open Go.RowKit Go.Shelf
set_option linter.unusedVariables false
set_option linter.unusedSimpArgs false
set_option maxRecDepth 100000

theorem gl_nar {al : Bool} {L : List Nat} {p : Nat} {lo hi : Int} (h : 0 ≤ hi ∧ hi ≤ 65535) : gl al L p lo hi = ⟨gE al L p lo hi, (gN al L p lo hi).toNat, false, gP al L p lo hi⟩ := if_pos (lNar_yes h)
theorem gl_open {al : Bool} {L : List Nat} {p : Nat} {lo hi : Int} (h : ¬ (0 ≤ hi ∧ hi ≤ 65535)) : gl al L p lo hi = rlF al L p := if_neg (by rw [lNar_no h]; simp)
theorem gN_bounds (al : Bool) (L : List Nat) (p : Nat) (lo hi : Int) (h0 : 0 ≤ lo) (hh : 0 ≤ hi) : 0 ≤ gN al L p lo hi ∧ gN al L p lo hi ≤ hi := by
  unfold gN
  split
  · rename_i h
    unfold gE at h
    split at h
    · cases h
    · split at h
      · omega
      · split at h
        · cases h
        · omega
  · omega
theorem gl_v (al : Bool) (L : List Nat) (p : Nat) (lo hi : Int) (h0 : 0 ≤ lo) : (gl al L p lo hi).v ≤ 65536 := by
  by_cases hh : 0 ≤ hi ∧ hi ≤ 65535
  · have := gN_bounds al L p lo hi h0 hh.1
    rw [gl_nar hh]
    show (gN al L p lo hi).toNat ≤ 65536
    omega
  · rw [gl_open hh]
    have := rlF_v al L p
    omega
set_option maxHeartbeats 1000000 in
theorem sgetCount_ok (w : World) (r : Nat) (s : Value) (L : List Nat) (p : Nat) (al : Bool) (lo hi : Int) (k : Nat) (tx : Bool) (h : RdAt w r s L p) (hv : ¬ lBad lo hi) (hL : L.length ≤ 1000000) (b2 : -9223372036854775808 ≤ lo ∧ lo ≤ 9223372036854775807) (b3 : -9223372036854775808 ≤ hi ∧ hi ≤ 9223372036854775807) :
    Calls Tryz.prog 52 #[.pointer (some ⟨r, 0, none⟩), .agg #[.bool al, .int .i64 lo, .int .i64 hi, .int .i64 (k : Nat), .bool tx]] w fun e w' =>
      e = .returned (.tuple #[.int .i64 ((gl al L p lo hi).v : Nat), .bool (gl al L p lo hi).m, .int .i64 (gl al L p lo hi).e]) ∧ RdAt w' r s L (gl al L p lo hi).p ∧ Only r w w' := by
  have h0 := (Below.refl w.heap.size w).alloc (Nat.le_refl _) (.cells #[.bool al, .int .i64 lo, .int .i64 hi, .int .i64 (k : Nat), .bool tx] 64)
  have HC := Lib.hid (LayAt.new w al lo hi k tx)
  have HR := Lib.hid (h.below h0)
  have H0 := Lib.hid (Only.of_below (b := r) h0)
  clear h h0
  by_cases hh : 0 ≤ hi ∧ hi ≤ 65535
  · have HN := Lib.hid (fun w => snarrow_ok al lo hi k tx w true (lNar_yes hh).symm)
    have hb := gN_bounds al L p lo hi (by unfold lBad at hv; omega) hh.1
    have HG := Lib.hid (fun (w1 : World) (h : RdAt w1 r s L p) => lget_any w1 r L p al lo hi h (by omega) b2 b3)
    obtain ⟨g1, g2, g3, g4⟩ := lg_nar hv hh al L p
    rw [g1, g2, g3, g4] at HG
    rw [gl_nar hh]
    obtain ⟨n, hn⟩ : ∃ n : Nat, gN al L p lo hi = n := ⟨(gN al L p lo hi).toNat, by omega⟩
    rw [hn] at HG ⊢
    rw [Int.toNat_natCast]
    generalize gE al L p lo hi = er at *
    generalize gP al L p lo hi = q at *
    clear hb hh g1 g2 g3 g4 hn hv
    go_enter Tryz.func52, Tryz.ntmps52
    go_wp2_with fail
    refine (HN.out _).mono ?_
    rintro e w1 ⟨rfl, hb1⟩
    obtain ⟨d0, d1, d2, d3, d4⟩ := (HC.out.below hb1).cells
    have HR1 := Lib.hid (HR.out.below hb1)
    have H1 := Lib.hid (H0.out.trans (Only.of_below hb1))
    clear hb1 HR H0 HC HN
    go_wp2_with fail
    refine (HG.out w1 HR1.out).mono ?_
    rintro e w2 ⟨rfl, h1, h2⟩
    have H2 := Lib.hid h1
    have H3 := Lib.hid (H1.out.trans h2)
    clear h1 h2 d0 d1 d2 d3 d4 HG
    go_wp2_with fail
    go_ret3
    exact ⟨rfl, H2.out, H3.out⟩
  · have HN := Lib.hid (fun w => snarrow_ok al lo hi k tx w false (lNar_no hh).symm)
    have HG := Lib.hid (fun (w1 : World) (h : RdAt w1 r s L p) => lget_open w1 r L p al h (by omega))
    rw [gl_open hh]
    unfold RlC at HG
    generalize rlF al L p = o at *
    clear hh hv
    go_enter Tryz.func52, Tryz.ntmps52
    go_wp2_with fail
    refine (HN.out _).mono ?_
    rintro e w1 ⟨rfl, hb1⟩
    obtain ⟨d0, d1, d2, d3, d4⟩ := (HC.out.below hb1).cells
    have HR1 := Lib.hid (HR.out.below hb1)
    have H1 := Lib.hid (H0.out.trans (Only.of_below hb1))
    clear hb1 HR H0 HC HN
    go_wp2_with fail
    refine (HG.out w1 HR1.out).mono ?_
    rintro e w2 ⟨rfl, h1, h2⟩
    have H2 := Lib.hid h1
    have H3 := Lib.hid (H1.out.trans h2)
    clear h1 h2 d0 d1 d2 d3 d4 HG
    go_wp2_with fail
    go_ret3
    exact ⟨rfl, H2.out, H3.out⟩
set_option maxHeartbeats 1000000 in
theorem sgetPart_ok (w : World) (r : Nat) (s : Value) (L : List Nat) (p : Nat) (al : Bool) (lo hi : Int) (k : Nat) (tx : Bool) (n : Nat) (fn : FuncId) (first cap : Array Value) (U : Nat → Nat → Ro) (hen : Enters Tryz.prog fn)
    (h : RdAt w r s L p) (hu : UnitsR fn first cap r s L U w) (hv : ¬ lBad lo hi) (hk : k ≤ 8) (hn : n ≤ 65536) (hL : L.length ≤ 1000000) :
    Calls Tryz.prog 51 #[.pointer (some ⟨r, 0, none⟩), .agg #[.bool al, .int .i64 lo, .int .i64 hi, .int .i64 (k : Nat), .bool tx], .int .i64 (n : Nat), .func (.func fn) first cap] w fun e w' =>
      ∃ v, e = .returned (.tuple #[v, .int .i64 (rdPart (algn al tx k n lo hi) U L n p).e]) ∧ Own w.heap.size w' v (rdPart (algn al tx k n lo hi) U L n p).l ∧ RdAt w' r s L (rdPart (algn al tx k n lo hi) U L n p).p ∧ Only r w w' := by
  have h0 := (Below.refl w.heap.size w).alloc (Nat.le_refl _) (.cells #[.bool al, .int .i64 lo, .int .i64 hi, .int .i64 (k : Nat), .bool tx] 64)
  have HC := Lib.hid (LayAt.new w al lo hi k tx)
  have HA := Lib.hid (saligns_ok al lo hi k tx n (w.alloc (.cells #[.bool al, .int .i64 lo, .int .i64 hi, .int .i64 (k : Nat), .bool tx] 64)) hv hk (by omega))
  have HR := Lib.hid (h.below h0)
  have H0 := Lib.hid (Only.of_below (b := r) h0)
  have HU := Lib.hid hu
  have hen : ∀ (args : Array Value) (w : World), (callFunc fn args).run Tryz.prog w = .ok (.enter fn args) w := hen
  clear h hu hv h0
  unfold rdPart
  generalize algn al tx k n lo hi = c at *
  cases c with
  | false =>
    rw [if_neg (show ¬ (false = true) by simp)]
    go_enter Tryz.func51, Tryz.ntmps51
    go_wp2_with fail
    refine HA.out.mono ?_
    rintro e w1 ⟨rfl, hb1⟩
    have H1 := Lib.hid (H0.out.trans (Only.of_below hb1))
    have HR1 := Lib.hid (HR.out.below hb1)
    clear hb1 H0 HR HC
    go_wp2_with fail
    refine (HU.out w1 p n H1.out HR1.out (by omega)).mono ?_
    rintro e w2 ⟨v, rfl, h1, h2, h3⟩
    have H2 := Lib.hid (h1.base H1.out.size)
    have H3 := Lib.hid h2
    have H4 := Lib.hid (H1.out.trans h3)
    clear h1 h2 h3 H1 HR1 HU
    go_wp2_with fail
    go_ret2
    exact ⟨_, rfl, H2.out, H3.out, H4.out⟩
  | true =>
    rw [if_pos rfl]
    have HAl := Lib.hid (fun (w1 : World) (h : RdAt w1 r s L p) => ralign_all w1 r L p h (by omega))
    by_cases he : aerr L p = 0
    · rw [if_pos he]
      rw [he] at HAl
      generalize apos L p = q at *
      clear he
      go_enter Tryz.func51, Tryz.ntmps51
      go_wp2_with fail
      refine HA.out.mono ?_
      rintro e w1 ⟨rfl, hb1⟩
      have H1 := Lib.hid (H0.out.trans (Only.of_below hb1))
      have HR1 := Lib.hid (HR.out.below hb1)
      clear hb1 H0 HR HC
      go_wp2_with fail
      refine (HAl.out w1 HR1.out).mono ?_
      rintro e w2 ⟨rfl, h1, h2⟩
      have H2 := Lib.hid (H1.out.trans h2)
      have HR2 := Lib.hid h1
      clear h1 h2 H1 HR1 HAl
      go_wp2_with fail
      refine (HU.out w2 q n H2.out HR2.out (by omega)).mono ?_
      rintro e w3 ⟨v, rfl, h1, h2, h3⟩
      have H3 := Lib.hid (h1.base H2.out.size)
      have H4 := Lib.hid h2
      have H5 := Lib.hid (H2.out.trans h3)
      clear h1 h2 h3 H2 HR2 HU
      go_wp2_with fail
      go_ret2
      exact ⟨_, rfl, H3.out, H4.out, H5.out⟩
    · rw [if_neg he]
      obtain ⟨n1, n2⟩ := ne_facts he
      generalize apos L p = q at *
      generalize aerr L p = er at *
      clear he
      go_enter Tryz.func51, Tryz.ntmps51
      go_wp2_with fail
      refine HA.out.mono ?_
      rintro e w1 ⟨rfl, hb1⟩
      have H1 := Lib.hid (H0.out.trans (Only.of_below hb1))
      have HR1 := Lib.hid (HR.out.below hb1)
      clear hb1 H0 HR HC
      go_wp2_with fail
      refine (HAl.out w1 HR1.out).mono ?_
      rintro e w2 ⟨rfl, h1, h2⟩
      have H2 := Lib.hid (H1.out.trans h2)
      have HR2 := Lib.hid h1
      clear h1 h2 H1 HR1 HAl
      go_wp2_with fail
      go_ret2
      exact ⟨_, rfl, Own.nil _ _, HR2.out, H2.out⟩
end Go.Proofs.YtbpfggkpfaobhaaGreat
