/-
  Package token: the kind of the token at a place, and where it ends.
-/
import Derived.Test.YthcodmcfkmochaaDoorTkI
namespace Go.Proofs.YthcodmcfkmochaaDoor
open Go.RowKit
set_option linter.unusedVariables false
set_option linter.unusedSimpArgs false
set_option maxRecDepth 100000

/-- the length up to which the library searches otherwise is a number in w -/
def MxAt (w : World) : Prop := ∃ m, w.cell? ⟨3, 0, none⟩ = some (.int .i64 m)
theorem MxAt.below {w w' : World} (h : MxAt w) (hb : Below w.heap.size w w') : MxAt w' := by
  obtain ⟨m, h⟩ := h
  exact ⟨m, (World.cell?_of_block (w := w) (a := ⟨3, 0, none⟩) (hb.block 3 (World.block_lt_of_cell? w _ h))).trans h⟩
/-- the program's variables in w -/
structure Gl (w : World) : Prop where
  sg : SgAt w
  er : ErAt w
  mx : MxAt w
theorem Gl.below {w w' : World} (h : Gl w) (hb : Below w.heap.size w w') : Gl w' := ⟨h.sg.below hb, h.er.below hb, h.mx.below hb⟩
theorem tkEnd_w {l : List Nat} {p : Nat} (h : isLt (tAt l p) = true) : tkEnd l p = (1, wEnd l p) := if_pos h
theorem tkEnd_i {l : List Nat} {p : Nat} (h : isLt (tAt l p) = false) (h2 : isDg (tAt l p) = true ∨ (tAt l p = 45 ∧ isDg (tAt l (p + 1)) = true)) : tkEnd l p = (2, iEnd l p) := (if_neg (by rw [h]; decide)).trans (if_pos h2)
theorem tkEnd_q {l : List Nat} {p : Nat} (h : isLt (tAt l p) = false) (h2 : ¬ (isDg (tAt l p) = true ∨ (tAt l p = 45 ∧ isDg (tAt l (p + 1)) = true))) (h3 : tAt l p = 34) : tkEnd l p = (4, qEnd l p) := (if_neg (by rw [h]; decide)).trans ((if_neg h2).trans (if_pos h3))
theorem tkEnd_s {l : List Nat} {p : Nat} (h : isLt (tAt l p) = false) (h2 : ¬ (isDg (tAt l p) = true ∨ (tAt l p = 45 ∧ isDg (tAt l (p + 1)) = true))) (h3 : ¬ tAt l p = 34) : tkEnd l p = (3, sEnd l p) := (if_neg (by rw [h]; decide)).trans ((if_neg h2).trans (if_neg h3))
set_option maxHeartbeats 8000000 in
theorem end_ok (s : ByteArray) (p : Nat) (w : World) (hgl : Gl w) (hp : p ≤ s.size) (hs : s.size ≤ 100000) :
    Calls Tryd.prog 19 #[.agg #[.string s, .int .i64 (p : Nat)]] w fun e w' => e = .returned (.tuple #[.int .i64 ((tkEnd (cods s) p).1 : Nat), .int .i64 ((tkEnd (cods s) p).2 : Nat)]) ∧ Below w.heap.size w w' := by
  obtain ⟨hb0, hk⟩ := scbox w s p
  have HB0 := Lib.hid hb0
  have hk2 := hk _ (Below.refl _ _)
  have HGL := Lib.hid (hgl.below hb0)
  obtain ⟨x, hx⟩ : ∃ x, tAt (cods s) p = x := ⟨_, rfl⟩
  obtain ⟨y, hy⟩ : ∃ y, tAt (cods s) (p + 1) = y := ⟨_, rfl⟩
  have HA0 := Lib.hid (fun w => tat_int s (p : Int) p rfl x hx w)
  have HA1 := Lib.hid (fun w => tat_int s ((p : Int) + 1) (p + 1) (by omega) y hy w)
  have HLx := Lib.hid (fun w => tlt_ok x w)
  have HDx := Lib.hid (fun w => tdg_ok x w)
  have HDy := Lib.hid (fun w => tdg_ok y w)
  have hlen := cods_length s
  have hin : x ≠ 0 → p < s.size := fun h => by rw [← hx] at h; have := tAt_in h; omega
  cases hlx : isLt x with
  | true =>
    rw [tkEnd_w (by rw [hx]; exact hlx)]
    have HC := Lib.hid (fun (w : World) (h : Gl w) => wordEnd_ok s p w (hin (by rintro rfl; cases hlx)) hs)
    simp only at HC ⊢
    generalize wEnd (cods s) p = R at *
    have hk0 := hk2.1
    have hk1 := hk2.2
    clear hx hy hk hk2 hlen hin hb0 hgl
    rw [hlx] at HLx
    clear hlx
    go_enter Tryd.func19, Tryd.ntmps19
    go_wp2_with fail
    generalize w.alloc (.cells #[.string s, .int .i64 (p : Nat)] 38) = W at *
    refine (HA0.out _).mono ?_
    rintro e w5 ⟨rfl, rfl⟩
    go_wp2_with fail
    refine (HLx.out _).mono ?_
    rintro e w5 ⟨rfl, rfl⟩
    go_wp2_with fail
    refine (HC.out _ HGL.out).mono ?_
    rintro e w5 ⟨rfl, hb⟩
    have HB5 := Lib.hid hb
    clear hb
    go_wp2_with fail
    go_ret2
    exact ⟨rfl, HB0.out.trans (HB5.out.mono HB0.out.size)⟩
  | false =>
    rw [hlx] at HLx
    cases hdx : isDg x with
    | true =>
      rw [tkEnd_i (by rw [hx]; exact hlx) (.inl (by rw [hx]; exact hdx))]
      have HC := Lib.hid (fun (w : World) (h : Gl w) => integerEnd_ok s p w h.er (hin (by rintro rfl; cases hdx)) hs (.inl (by rw [hx]; exact hdx)))
      simp only at HC ⊢
      generalize iEnd (cods s) p = R at *
      have hk0 := hk2.1
      have hk1 := hk2.2
      clear hx hy hk hk2 hlen hin hb0 hgl
      rw [hdx] at HDx
      clear hlx hdx
      go_enter Tryd.func19, Tryd.ntmps19
      go_wp2_with fail
      generalize w.alloc (.cells #[.string s, .int .i64 (p : Nat)] 38) = W at *
      refine (HA0.out _).mono ?_
      rintro e w5 ⟨rfl, rfl⟩
      go_wp2_with fail
      refine (HLx.out _).mono ?_
      rintro e w5 ⟨rfl, rfl⟩
      go_wp2_with fail
      refine (HDx.out _).mono ?_
      rintro e w5 ⟨rfl, rfl⟩
      go_wp2_with fail
      refine (HC.out _ HGL.out).mono ?_
      rintro e w5 ⟨rfl, hb⟩
      have HB5 := Lib.hid hb
      clear hb
      go_wp2_with fail
      go_ret2
      exact ⟨rfl, HB0.out.trans (HB5.out.mono HB0.out.size)⟩
    | false =>
      rw [hdx] at HDx
      by_cases hm : x = 45
      · have q1 : ((x : Int) == 45) = true := by rw [hm]; rfl
        have q2 : ((x : Int) == 34) = false := by rw [hm]; rfl
        cases hdy : isDg y with
        | true =>
          rw [tkEnd_i (by rw [hx]; exact hlx) (.inr ⟨hx.trans hm, by rw [hy]; exact hdy⟩)]
          have HC := Lib.hid (fun (w : World) (h : Gl w) => integerEnd_ok s p w h.er (hin (by omega)) hs (.inr ⟨hx.trans hm, by rw [hy]; exact hdy⟩))
          simp only at HC ⊢
          generalize iEnd (cods s) p = R at *
          have hk0 := hk2.1
          have hk1 := hk2.2
          clear hx hy hk hk2 hlen hin hb0 hgl
          rw [hdy] at HDy
          clear hlx hdx hdy hm
          go_enter Tryd.func19, Tryd.ntmps19
          go_wp2_with fail
          generalize w.alloc (.cells #[.string s, .int .i64 (p : Nat)] 38) = W at *
          refine (HA0.out _).mono ?_
          rintro e w5 ⟨rfl, rfl⟩
          go_wp2_with fail
          refine (HLx.out _).mono ?_
          rintro e w5 ⟨rfl, rfl⟩
          go_wp2_with fail
          refine (HDx.out _).mono ?_
          rintro e w5 ⟨rfl, rfl⟩
          go_wp2_with fail
          refine (HA1.out _).mono ?_
          rintro e w5 ⟨rfl, rfl⟩
          go_wp2_with fail
          refine (HDy.out _).mono ?_
          rintro e w5 ⟨rfl, rfl⟩
          go_wp2_with fail
          refine (HC.out _ HGL.out).mono ?_
          rintro e w5 ⟨rfl, hb⟩
          have HB5 := Lib.hid hb
          clear hb
          go_wp2_with fail
          go_ret2
          exact ⟨rfl, HB0.out.trans (HB5.out.mono HB0.out.size)⟩
        | false =>
          rw [tkEnd_s (by rw [hx]; exact hlx) (by rw [hx, hy, hdx, hdy]; rintro (h | h); cases h; cases h.2) (by rw [hx]; omega)]
          have HC := Lib.hid (fun (w : World) (h : Gl w) => signEnd_ok s p w h.sg hp hs)
          simp only at HC ⊢
          generalize sEnd (cods s) p = R at *
          have hk0 := hk2.1
          have hk1 := hk2.2
          clear hx hy hk hk2 hlen hin hb0 hgl
          rw [hdy] at HDy
          clear hlx hdx hdy hm
          go_enter Tryd.func19, Tryd.ntmps19
          go_wp2_with fail
          generalize w.alloc (.cells #[.string s, .int .i64 (p : Nat)] 38) = W at *
          refine (HA0.out _).mono ?_
          rintro e w5 ⟨rfl, rfl⟩
          go_wp2_with fail
          refine (HLx.out _).mono ?_
          rintro e w5 ⟨rfl, rfl⟩
          go_wp2_with fail
          refine (HDx.out _).mono ?_
          rintro e w5 ⟨rfl, rfl⟩
          go_wp2_with fail
          refine (HA1.out _).mono ?_
          rintro e w5 ⟨rfl, rfl⟩
          go_wp2_with fail
          refine (HDy.out _).mono ?_
          rintro e w5 ⟨rfl, rfl⟩
          go_wp2_with fail
          refine (HC.out _ HGL.out).mono ?_
          rintro e w5 ⟨rfl, hb⟩
          have HB5 := Lib.hid hb
          clear hb
          go_wp2_with fail
          go_ret2
          exact ⟨rfl, HB0.out.trans (HB5.out.mono HB0.out.size)⟩
      · have q1 : ((x : Int) == 45) = false := beq_false_of_ne (by omega)
        have q1n : decide (x = 45) = false := decide_eq_false hm
        by_cases hq : x = 34
        · have q2 : ((x : Int) == 34) = true := by rw [hq]; rfl
          rw [tkEnd_q (by rw [hx]; exact hlx) (by rw [hx, hdx]; rintro (h | h); cases h; exact hm h.1) (hx.trans hq)]
          have HC := Lib.hid (fun (w : World) (h : Gl w) => quotedEnd_ok s p w (hin (by omega)) hs)
          simp only at HC ⊢
          generalize qEnd (cods s) p = R at *
          have hk0 := hk2.1
          have hk1 := hk2.2
          clear hx hy hk hk2 hlen hin hb0 hgl
          clear hlx hdx hm hq
          go_enter Tryd.func19, Tryd.ntmps19
          go_wp2_with fail
          generalize w.alloc (.cells #[.string s, .int .i64 (p : Nat)] 38) = W at *
          refine (HA0.out _).mono ?_
          rintro e w5 ⟨rfl, rfl⟩
          go_wp2_with fail
          refine (HLx.out _).mono ?_
          rintro e w5 ⟨rfl, rfl⟩
          go_wp2_with fail
          refine (HDx.out _).mono ?_
          rintro e w5 ⟨rfl, rfl⟩
          go_wp2_with fail
          refine (HC.out _ HGL.out).mono ?_
          rintro e w5 ⟨rfl, hb⟩
          have HB5 := Lib.hid hb
          clear hb
          go_wp2_with fail
          go_ret2
          exact ⟨rfl, HB0.out.trans (HB5.out.mono HB0.out.size)⟩
        · have q2 : ((x : Int) == 34) = false := beq_false_of_ne (by omega)
          have q2n : decide (x = 34) = false := decide_eq_false hq
          rw [tkEnd_s (by rw [hx]; exact hlx) (by rw [hx, hdx]; rintro (h | h); cases h; exact hm h.1) (by rw [hx]; exact hq)]
          have HC := Lib.hid (fun (w : World) (h : Gl w) => signEnd_ok s p w h.sg hp hs)
          simp only at HC ⊢
          generalize sEnd (cods s) p = R at *
          have hk0 := hk2.1
          have hk1 := hk2.2
          clear hx hy hk hk2 hlen hin hb0 hgl
          clear hlx hdx hm hq
          go_enter Tryd.func19, Tryd.ntmps19
          go_wp2_with fail
          generalize w.alloc (.cells #[.string s, .int .i64 (p : Nat)] 38) = W at *
          refine (HA0.out _).mono ?_
          rintro e w5 ⟨rfl, rfl⟩
          go_wp2_with fail
          refine (HLx.out _).mono ?_
          rintro e w5 ⟨rfl, rfl⟩
          go_wp2_with fail
          refine (HDx.out _).mono ?_
          rintro e w5 ⟨rfl, rfl⟩
          go_wp2_with fail
          refine (HC.out _ HGL.out).mono ?_
          rintro e w5 ⟨rfl, hb⟩
          have HB5 := Lib.hid hb
          clear hb
          go_wp2_with fail
          go_ret2
          exact ⟨rfl, HB0.out.trans (HB5.out.mono HB0.out.size)⟩
end Go.Proofs.YthcodmcfkmochaaDoor
