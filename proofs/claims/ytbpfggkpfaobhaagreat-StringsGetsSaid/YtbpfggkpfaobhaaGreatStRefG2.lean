/-
  The document's answer for package strings: get, where the bounds are none, where the size is fixed, where the length is none.
-/
import Derived.Test.YtbpfggkpfaobhaaGreatStRefG
namespace Go.Proofs.YtbpfggkpfaobhaaGreat
open Go.RowKit Go.Shelf
set_option linter.unusedVariables false
set_option linter.unusedSimpArgs false
set_option maxRecDepth 100000

theorem rcnt6_ok (w : World) (b : Nat) (L : List Nat) (p : Nat) (al : Bool) (lo hi from' to : Int) (h : QAt w b (bitsOf L) p) (hv : ¬ lBad lo hi) (hL : L.length ≤ 1000000) (b2 : -9223372036854775808 ≤ lo ∧ lo ≤ 9223372036854775807) (b3 : -9223372036854775808 ≤ hi ∧ hi ≤ 9223372036854775807)
    (hft : (0 ≤ hi ∧ hi ≤ 65535 ∧ from' = lo ∧ to = hi) ∨ (¬ (0 ≤ hi ∧ hi ≤ 65535) ∧ from' = 0 ∧ -9223372036854775808 ≤ to ∧ to < 0)) :
    Calls Tryz.prog 58 #[.pointer (some ⟨b, 0, none⟩), .bool al, .int .i64 from', .int .i64 to] w fun e' w' => ∃ (n : Int) (m : Bool), e' = .returned (.tuple #[.int .i64 n, .bool m, .int .i64 (gl al L p lo hi).e]) ∧ ((gl al L p lo hi).e = 0 → n = (gl al L p lo hi).v ∧ m = (gl al L p lo hi).m) ∧ QAt w' b (bitsOf L) (gl al L p lo hi).p ∧ Only b w w' := by
  rcases hft with ⟨h1, h2, rfl, rfl⟩ | ⟨h1, rfl, h2, h3⟩
  · have hb := gN_bounds al L p from' to (by unfold lBad at hv; omega) h1
    have hg := rlget_any w b L p al from' to h hL b2 b3
    obtain ⟨g1, g2, g3, g4⟩ := lg_nar hv ⟨h1, h2⟩ al L p
    rw [g1, g2, g3, g4] at hg
    rw [gl_nar ⟨h1, h2⟩]
    refine hg.mono ?_
    rintro e' w' ⟨rfl, k1, k2⟩
    exact ⟨_, _, rfl, fun _ => ⟨(Int.toNat_of_nonneg hb.1).symm, rfl⟩, k1, k2⟩
  · have hg := rlget_any w b L p al 0 to h hL (by omega) (by omega)
    obtain ⟨g1, g2, g3, g4⟩ := lg_form (lo := 0) (hi := to) (by unfold lBad; omega) (by omega) al L p
    have ho : lgOut (rlF al L p) 0 to = (rlF al L p).e := by
      unfold lgOut
      split
      · rfl
      · rename_i he
        rw [if_neg (by omega)]
        omega
    rw [g1, g2, g3, g4, ho] at hg
    rw [gl_open h1]
    refine hg.mono ?_
    rintro e' w' ⟨rfl, k1, k2⟩
    refine ⟨_, _, rfl, fun he => ?_, k1, k2⟩
    rw [if_pos he, if_pos he]
    exact ⟨rfl, rfl⟩
theorem rget_bad (w : World) (b : Nat) (L : List Nat) (p : Nat) (al : Bool) (k : Nat) (tx : Bool) (lo hi : Int) (hq : QAt w b (bitsOf L) p) (hbad : lBad lo hi) :
    Calls Tryz.prog 32 #[.pointer (some ⟨b, 0, none⟩), .bool al, .agg #[.int .i64 (k : Nat), .bool tx], .int .i64 lo, .int .i64 hi] w fun e w2 => ∃ v, e = .returned (.tuple #[v, .int .i64 1]) ∧ InAt w2 v (ints []) ∧ QAt w2 b (bitsOf L) p ∧ Only b w w2 := by
  have hb0 := (Below.refl w.heap.size w).alloc (Nat.le_refl _) (.cells #[.int .i64 (k : Nat), .bool tx] 71)
  have HQ0 := Lib.hid (hq.below hb0)
  have HO0 := Lib.hid (Only.of_below (b := b) hb0)
  unfold lBad at hbad
  clear hq hb0
  by_cases h1 : lo < 0
  · have q1 : decide (lo < (0 : Int)) = true := decide_eq_true h1
    clear hbad h1
    go_enter Tryz.func32, Tryz.ntmps32
    go_wp2_with fail
    go_ret2
    exact ⟨_, rfl, .inl ⟨rfl, rfl⟩, HQ0.out, HO0.out⟩
  · have q1 : decide (lo < (0 : Int)) = false := decide_eq_false (by omega)
    have q2 : decide ((0 : Int) ≤ hi) = true := decide_eq_true (by omega)
    have q3 : decide (hi < lo) = true := decide_eq_true (by omega)
    clear hbad h1
    go_enter Tryz.func32, Tryz.ntmps32
    go_wp2_with fail
    go_ret2
    exact ⟨_, rfl, .inl ⟨rfl, rfl⟩, HQ0.out, HO0.out⟩
set_option maxHeartbeats 2000000 in
theorem rget_fix (w : World) (b : Nat) (L : List Nat) (p : Nat) (al : Bool) (k : Nat) (tx : Bool) (n : Nat) (hq : QAt w b (bitsOf L) p) (hk : k ≤ 8) (hL : L.length ≤ 1000000) (hn : n ≤ 65535) :
    Calls Tryz.prog 32 #[.pointer (some ⟨b, 0, none⟩), .bool al, .agg #[.int .i64 (k : Nat), .bool tx], .int .i64 (n : Nat), .int .i64 (n : Nat)] w fun e w2 => ∃ v, e = .returned (.tuple #[v, .int .i64 (rdPart (algn al tx k n n n) (fun n p => uGo L k n p []) L n p).e]) ∧ InAt w2 v (ints (rdPart (algn al tx k n n n) (fun n p => uGo L k n p []) L n p).l) ∧ QAt w2 b (bitsOf L) (rdPart (algn al tx k n n n) (fun n p => uGo L k n p []) L n p).p ∧ Only b w w2 := by
  have hb0 := (Below.refl w.heap.size w).alloc (Nat.le_refl _) (.cells #[.int .i64 (k : Nat), .bool tx] 71)
  have hne : w.heap.size ≠ b := by have := hq.lt; omega
  have HK := Lib.hid (show ∀ (w' : World), Only b (w.alloc (.cells #[.int .i64 (k : Nat), .bool tx] 71)) w' → w'.cell? ⟨w.heap.size, 0, none⟩ = some (.int .i64 (k : Nat)) ∧ w'.cell? ⟨w.heap.size, 1, none⟩ = some (.bool tx) from fun w' h => by
    have e := h.block w.heap.size (by simp) hne
    refine ⟨(World.cell?_of_block (a := ⟨w.heap.size, 0, none⟩) e).trans (cell_of_row _ _ _ _ _ _ (heap_alloc_new _ _)), (World.cell?_of_block (a := ⟨w.heap.size, 1, none⟩) e).trans (cell_of_row _ _ _ _ _ _ (heap_alloc_new _ _))⟩)
  have HQ0 := Lib.hid (hq.below hb0)
  have HO0 := Lib.hid (Only.of_below (b := b) hb0)
  have q1 : decide ((n : Int) < (0 : Int)) = false := decide_eq_false (by omega)
  have q2 : decide ((0 : Int) ≤ (n : Int)) = true := decide_eq_true (by omega)
  have q3 : decide ((n : Int) < (n : Int)) = false := decide_eq_false (by omega)
  have HF := Lib.hid (fun w => rFixed_ok n n w)
  have hf : (n : Int) = n ∧ (n : Int) ≤ 65535 := ⟨rfl, by omega⟩
  rw [fixd_yes hf] at HF
  have HU := Lib.hid (fun (w1 : World) (q : Nat) (h : QAt w1 b (bitsOf L) q) => runits_ok w1 b L k tx q n h hk hL (by omega))
  have HA := Lib.hid (fun (w1 : World) (h : QAt w1 b (bitsOf L) p) => rralign_all w1 b L p h (by omega))
  have e1 : algn al tx k n n n = (al && decide (16 < n * k)) := by unfold algn; rw [if_pos (fixd_yes hf)]
  rw [e1]
  obtain ⟨b16, hb16⟩ : ∃ b16, decide (16 < n * k) = b16 := ⟨_, rfl⟩
  have hm := mul_small (a := (n : Int)) (k := k) (by omega) (by omega) (by omega) (by omega)
  have r6 : decide ((16 : Int) < (n : Int) * (k : Int)) = b16 := by rw [← hb16, decide_eq_decide]; omega
  rw [hb16]
  clear hf e1 hb16 hq hb0
  unfold rdPart
  obtain ⟨d0, d1⟩ := HK.out _ (Only.refl _ _)
  cases al with
  | false =>
    rw [if_neg (show ¬ ((false && b16) = true) by simp)]
    go_enter Tryz.func32, Tryz.ntmps32
    go_wp2_with fail
    generalize w.alloc (.cells #[.int .i64 (k : Nat), .bool tx] 71) = W at *
    refine (HF.out _).mono ?_
    rintro e w1 ⟨rfl, rfl⟩
    go_wp2_with fail
    refine (HU.out W p HQ0.out).mono ?_
    rintro e w9 ⟨v, rfl, h1, h2, h3⟩
    have H7 := Lib.hid h1
    have H8 := Lib.hid h2
    have H9 := Lib.hid ((HO0.out).trans h3)
    clear h1 h2 h3 d0 d1
    go_wp2_with fail
    go_ret2
    exact ⟨_, rfl, H7.out, H8.out, H9.out⟩
  | true =>
    cases b16 with
    | false =>
      rw [if_neg (show ¬ ((true && false) = true) by simp)]
      go_enter Tryz.func32, Tryz.ntmps32
      go_wp2_with fail
      generalize w.alloc (.cells #[.int .i64 (k : Nat), .bool tx] 71) = W at *
      refine (HF.out _).mono ?_
      rintro e w1 ⟨rfl, rfl⟩
      go_wp2_with fail
      refine (HU.out W p HQ0.out).mono ?_
      rintro e w9 ⟨v, rfl, h1, h2, h3⟩
      have H7 := Lib.hid h1
      have H8 := Lib.hid h2
      have H9 := Lib.hid ((HO0.out).trans h3)
      clear h1 h2 h3 d0 d1
      go_wp2_with fail
      go_ret2
      exact ⟨_, rfl, H7.out, H8.out, H9.out⟩
    | true =>
      rw [if_pos (show (true && true) = true from rfl)]
      by_cases he : aerr L p = 0
      · rw [if_pos he]
        rw [he] at HA
        generalize apos L p = q at *
        clear he
        go_enter Tryz.func32, Tryz.ntmps32
        go_wp2_with fail
        generalize w.alloc (.cells #[.int .i64 (k : Nat), .bool tx] 71) = W at *
        refine (HF.out _).mono ?_
        rintro e w1 ⟨rfl, rfl⟩
        go_wp2_with fail
        refine (HA.out _ HQ0.out).mono ?_
        rintro e w2 ⟨rfl, h1, h2⟩
        have HQ2 := Lib.hid h1
        have HO2 := Lib.hid (HO0.out.trans h2)
        clear d0 d1
        obtain ⟨d0, d1⟩ := HK.out w2 h2
        clear h1 h2 HA HK
        go_wp2_with fail
        refine (HU.out w2 q HQ2.out).mono ?_
        rintro e w9 ⟨v, rfl, h1, h2, h3⟩
        have H7 := Lib.hid h1
        have H8 := Lib.hid h2
        have H9 := Lib.hid ((HO2.out).trans h3)
        clear h1 h2 h3 d0 d1
        go_wp2_with fail
        go_ret2
        exact ⟨_, rfl, H7.out, H8.out, H9.out⟩
      · rw [if_neg he]
        obtain ⟨n1, n2⟩ := ne_facts he
        generalize apos L p = q at *
        generalize aerr L p = er at *
        clear he
        go_enter Tryz.func32, Tryz.ntmps32
        go_wp2_with fail
        generalize w.alloc (.cells #[.int .i64 (k : Nat), .bool tx] 71) = W at *
        refine (HF.out _).mono ?_
        rintro e w1 ⟨rfl, rfl⟩
        go_wp2_with fail
        refine (HA.out _ HQ0.out).mono ?_
        rintro e w2 ⟨rfl, h1, h2⟩
        have HQ2 := Lib.hid h1
        have HO2 := Lib.hid (HO0.out.trans h2)
        clear h1 h2 HA HK d0 d1
        go_wp2_with fail
        go_ret2
        exact ⟨_, rfl, .inl ⟨rfl, rfl⟩, HQ2.out, HO2.out⟩
end Go.Proofs.YtbpfggkpfaobhaaGreat
