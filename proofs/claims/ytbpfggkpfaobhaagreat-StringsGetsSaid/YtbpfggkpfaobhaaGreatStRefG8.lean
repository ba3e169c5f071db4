/-
  The document's answer for package strings: get, where a length is read and units behind it, aligned.
-/
import Derived.Test.YtbpfggkpfaobhaaGreatStRefG7
namespace Go.Proofs.YtbpfggkpfaobhaaGreat
open Go.RowKit Go.Shelf
set_option linter.unusedVariables false
set_option linter.unusedSimpArgs false
set_option maxRecDepth 100000

set_option maxHeartbeats 8000000 in
theorem rget_ve (w : World) (b : Nat) (L : List Nat) (p : Nat) (al : Bool) (k : Nat) (tx : Bool) (lo hi : Int) (hq : QAt w b (bitsOf L) p) (hk : k ≤ 8) (hL : L.length ≤ 1000000) (hv : ¬ lBad lo hi) (hf : ¬ (lo = hi ∧ hi ≤ 65535)) (b2 : -9223372036854775808 ≤ lo ∧ lo ≤ 9223372036854775807) (b3 : -9223372036854775808 ≤ hi ∧ hi ≤ 9223372036854775807) (he : (gl al L p lo hi).e = 0) (hm : Last al tx k (fun n p => uGo L k n p []) L p lo hi) (hal0 : al = true) (hcv : (gl al L p lo hi).v ≠ 0) (hnr : near tx k hi = false) (hae : aerr L (gl al L p lo hi).p ≠ 0) :
    Calls Tryz.prog 32 #[.pointer (some ⟨b, 0, none⟩), .bool al, .agg #[.int .i64 (k : Nat), .bool tx], .int .i64 lo, .int .i64 hi] w fun e w2 => ∃ v, e = .returned (.tuple #[v, .int .i64 (rdFin lo hi (gU al tx k (fun n p => uGo L k n p []) L p lo hi)).e]) ∧ InAt w2 v (ints (rdFin lo hi (gU al tx k (fun n p => uGo L k n p []) L p lo hi)).l) ∧ QAt w2 b (bitsOf L) (rdFin lo hi (gU al tx k (fun n p => uGo L k n p []) L p lo hi)).p ∧ Only b w w2 := by
  have hb0 := (Below.refl w.heap.size w).alloc (Nat.le_refl _) (.cells #[.int .i64 (k : Nat), .bool tx] 71)
  have hne : w.heap.size ≠ b := by have := hq.lt; omega
  have HK := Lib.hid (show ∀ (w' : World), Only b (w.alloc (.cells #[.int .i64 (k : Nat), .bool tx] 71)) w' → w'.cell? ⟨w.heap.size, 0, none⟩ = some (.int .i64 (k : Nat)) ∧ w'.cell? ⟨w.heap.size, 1, none⟩ = some (.bool tx) from fun w' h => by
    have e := h.block w.heap.size (by simp) hne
    refine ⟨(World.cell?_of_block (a := ⟨w.heap.size, 0, none⟩) e).trans (cell_of_row _ _ _ _ _ _ (heap_alloc_new _ _)), (World.cell?_of_block (a := ⟨w.heap.size, 1, none⟩) e).trans (cell_of_row _ _ _ _ _ _ (heap_alloc_new _ _))⟩)
  have HQ0 := Lib.hid (hq.below hb0)
  have HO0 := Lib.hid (Only.of_below (b := b) hb0)
  have h0 : 0 ≤ lo := by unfold lBad at hv; omega
  have q1 : decide (lo < (0 : Int)) = false := decide_eq_false (by omega)
  have HF := Lib.hid (fun w => rFixed_ok lo hi w)
  rw [fixd_no hf] at HF
  have HC := Lib.hid (fun (w1 : World) (f t : Int) (h : QAt w1 b (bitsOf L) p) (hft : (0 ≤ hi ∧ hi ≤ 65535 ∧ f = lo ∧ t = hi) ∨ (¬ (0 ≤ hi ∧ hi ≤ 65535) ∧ f = 0 ∧ -9223372036854775808 ≤ t ∧ t < 0)) => rcnt6_ok w1 b L p al lo hi f t h hv hL b2 b3 hft)
  have hv6 := gl_v al L p lo hi h0
  have hm2 := fun h => hm h he
  clear hm
  have hm := hm2
  clear hm2
  have hal : algn al tx k (gl al L p lo hi).v lo hi = (al && decide ((gl al L p lo hi).v ≠ 0) && !near tx k hi) := by unfold algn; rw [if_neg (by rw [fixd_no hf]; simp)]
  rw [he] at HC
  unfold gU at hm ⊢
  rw [hal] at hm ⊢
  obtain ⟨i0, hi0, hz0, hz1, hz2⟩ := info_parts info_i64
  have HN := Lib.hid (fun w => rnear_ok k tx hi w hk)
  have HAl := Lib.hid (fun (w1 : World) (h : QAt w1 b (bitsOf L) (gl al L p lo hi).p) => rralign_all w1 b L _ h (by omega))
  subst hal0
  rw [show (true && decide ((gl true L p lo hi).v ≠ 0) && !near tx k hi) = true by rw [hnr, decide_eq_true hcv]; rfl] at hm ⊢
  rw [hnr] at HN
  rw [rdPart_err hae] at hm ⊢
  have hrf : rdFin lo hi ⟨aerr L (gl true L p lo hi).p, [], apos L (gl true L p lo hi).p⟩ = ⟨aerr L (gl true L p lo hi).p, [], apos L (gl true L p lo hi).p⟩ := if_neg hae
  rw [hrf]
  obtain ⟨n1, n2⟩ := ne_facts hae
  generalize (gl true L p lo hi).v = cv at *
  generalize (gl true L p lo hi).p = cp at *
  generalize (gl true L p lo hi).m = cm at *
  have r9 : decide ((0 : Int) < (cv : Int)) = true := decide_eq_true (by omega)
  have r9n : decide (0 < cv) = true := decide_eq_true (by omega)
  have q5 : decide ((1048576 : Int) < (cv : Int)) = false := decide_eq_false (by omega)
  generalize aerr L cp = er at *
  generalize apos L cp = ap at *
  clear hrf hcv hnr hae hf hm he hal
  by_cases hA : 65535 < hi
  · have c1 : decide ((65535 : Int) < hi) = true := decide_eq_true hA
    have c2 : decide (hi < (0 : Int)) = false := decide_eq_false (by omega)
    have c3 : decide ((0 : Int) ≤ hi) = true := decide_eq_true (by omega)
    have c4 : decide (hi < lo) = false := decide_eq_false (by unfold lBad at hv; omega)
    have HCC := Lib.hid (fun (w1 : World) (h : QAt w1 b (bitsOf L) p) => HC.out w1 0 (-1) h (.inr ⟨by omega, rfl, by omega, by omega⟩))
    clear HC hv hA hq hb0 b2 b3
    cases cm
    all_goals
      go_enter Tryz.func32, Tryz.ntmps32
      go_wp2_with fail
      generalize w.alloc (.cells #[.int .i64 (k : Nat), .bool tx] 71) = W at *
      refine (HF.out _).mono ?_
      rintro e w1 ⟨rfl, rfl⟩
      go_wp2_with fail
      go_loopw [13, 14, 15, 16, 17] (fun av lv fv tv mv wr => av = .slice none 0 0 ∧ lv = .int .i64 65536 ∧ fv = .int .i64 0 ∧ tv = .int .i64 (-1) ∧ mv = .bool true ∧ wr = W) (fun _ _ _ _ _ _ => 0)
      case atStart => exact ⟨rfl, rfl, rfl, rfl, rfl, rfl⟩
      case round =>
        obtain ⟨rfl, rfl, rfl, rfl, rfl, rfl⟩ := hrel
        go_wp2_with fail
        refine (HCC.out _ HQ0.out).mono ?_
        rintro e w2 ⟨n, m, rfl, hnm, h1, h2⟩
        obtain ⟨rfl, rfl⟩ := hnm trivial
        have HQ2 := Lib.hid h1
        have HO2 := Lib.hid h2
        obtain ⟨d0, d1⟩ := HK.out w2 h2
        clear h1 h2 hnm HCC
        go_wp2_with fail
        refine (HN.out w2).mono ?_
        rintro e w3 ⟨rfl, hb3⟩
        have HQ3 := Lib.hid (HQ2.out.below hb3)
        have HO3 := Lib.hid (HO2.out.trans (Only.of_below hb3))
        clear d0 d1 hb3
        go_wp2_with fail
        refine (HAl.out w3 HQ3.out).mono ?_
        rintro e w5 ⟨rfl, h1, h2⟩
        have HQ5 := Lib.hid h1
        have HO5 := Lib.hid (HO0.out.trans (HO3.out.trans h2))
        clear h1 h2
        go_wp2_with fail
        go_ret2
        exact ⟨_, rfl, .inl ⟨rfl, rfl⟩, HQ5.out, HO5.out⟩
  by_cases hB : hi < 0
  · have c1 : decide ((65535 : Int) < hi) = false := decide_eq_false (by omega)
    have c2 : decide (hi < (0 : Int)) = true := decide_eq_true hB
    have c3 : decide ((0 : Int) ≤ hi) = false := decide_eq_false (by omega)
    have HCC := Lib.hid (fun (w1 : World) (h : QAt w1 b (bitsOf L) p) => HC.out w1 0 hi h (.inr ⟨by omega, rfl, by omega, by omega⟩))
    clear HC hv hA hq hb0 b2 b3
    cases cm
    all_goals
      go_enter Tryz.func32, Tryz.ntmps32
      go_wp2_with fail
      generalize w.alloc (.cells #[.int .i64 (k : Nat), .bool tx] 71) = W at *
      refine (HF.out _).mono ?_
      rintro e w1 ⟨rfl, rfl⟩
      go_wp2_with fail
      go_loopw [13, 14, 15, 16, 17] (fun av lv fv tv mv wr => av = .slice none 0 0 ∧ lv = .int .i64 65536 ∧ fv = .int .i64 0 ∧ tv = .int .i64 hi ∧ mv = .bool true ∧ wr = W) (fun _ _ _ _ _ _ => 0)
      case atStart => exact ⟨rfl, rfl, rfl, rfl, rfl, rfl⟩
      case round =>
        obtain ⟨rfl, rfl, rfl, rfl, rfl, rfl⟩ := hrel
        go_wp2_with fail
        refine (HCC.out _ HQ0.out).mono ?_
        rintro e w2 ⟨n, m, rfl, hnm, h1, h2⟩
        obtain ⟨rfl, rfl⟩ := hnm trivial
        have HQ2 := Lib.hid h1
        have HO2 := Lib.hid h2
        obtain ⟨d0, d1⟩ := HK.out w2 h2
        clear h1 h2 hnm HCC
        go_wp2_with fail
        refine (HN.out w2).mono ?_
        rintro e w3 ⟨rfl, hb3⟩
        have HQ3 := Lib.hid (HQ2.out.below hb3)
        have HO3 := Lib.hid (HO2.out.trans (Only.of_below hb3))
        clear d0 d1 hb3
        go_wp2_with fail
        refine (HAl.out w3 HQ3.out).mono ?_
        rintro e w5 ⟨rfl, h1, h2⟩
        have HQ5 := Lib.hid h1
        have HO5 := Lib.hid (HO0.out.trans (HO3.out.trans h2))
        clear h1 h2
        go_wp2_with fail
        go_ret2
        exact ⟨_, rfl, .inl ⟨rfl, rfl⟩, HQ5.out, HO5.out⟩
  · have c1 : decide ((65535 : Int) < hi) = false := decide_eq_false hA
    have c2 : decide (hi < (0 : Int)) = false := decide_eq_false hB
    have c3 : decide ((0 : Int) ≤ hi) = true := decide_eq_true (by omega)
    have c4 : decide (hi < lo) = false := decide_eq_false (by unfold lBad at hv; omega)
    have HCC := Lib.hid (fun (w1 : World) (h : QAt w1 b (bitsOf L) p) => HC.out w1 lo hi h (.inl ⟨by omega, by omega, rfl, rfl⟩))
    clear HC hv hA hq hb0 b2 b3
    cases cm
    all_goals
      go_enter Tryz.func32, Tryz.ntmps32
      go_wp2_with fail
      generalize w.alloc (.cells #[.int .i64 (k : Nat), .bool tx] 71) = W at *
      refine (HF.out _).mono ?_
      rintro e w1 ⟨rfl, rfl⟩
      go_wp2_with fail
      go_loopw [13, 14, 15, 16, 17] (fun av lv fv tv mv wr => av = .slice none 0 0 ∧ lv = .int .i64 65536 ∧ fv = .int .i64 lo ∧ tv = .int .i64 hi ∧ mv = .bool true ∧ wr = W) (fun _ _ _ _ _ _ => 0)
      case atStart => exact ⟨rfl, rfl, rfl, rfl, rfl, rfl⟩
      case round =>
        obtain ⟨rfl, rfl, rfl, rfl, rfl, rfl⟩ := hrel
        go_wp2_with fail
        refine (HCC.out _ HQ0.out).mono ?_
        rintro e w2 ⟨n, m, rfl, hnm, h1, h2⟩
        obtain ⟨rfl, rfl⟩ := hnm trivial
        have HQ2 := Lib.hid h1
        have HO2 := Lib.hid h2
        obtain ⟨d0, d1⟩ := HK.out w2 h2
        clear h1 h2 hnm HCC
        go_wp2_with fail
        refine (HN.out w2).mono ?_
        rintro e w3 ⟨rfl, hb3⟩
        have HQ3 := Lib.hid (HQ2.out.below hb3)
        have HO3 := Lib.hid (HO2.out.trans (Only.of_below hb3))
        clear d0 d1 hb3
        go_wp2_with fail
        refine (HAl.out w3 HQ3.out).mono ?_
        rintro e w5 ⟨rfl, h1, h2⟩
        have HQ5 := Lib.hid h1
        have HO5 := Lib.hid (HO0.out.trans (HO3.out.trans h2))
        clear h1 h2
        go_wp2_with fail
        go_ret2
        exact ⟨_, rfl, .inl ⟨rfl, rfl⟩, HQ5.out, HO5.out⟩
theorem rgetS_ok (w : World) (b : Nat) (L : List Nat) (p : Nat) (al : Bool) (k : Nat) (tx : Bool) (lo hi : Int) (hq : QAt w b (bitsOf L) p) (hk : k ≤ 8) (hL : L.length ≤ 1000000) (b2 : -9223372036854775808 ≤ lo ∧ lo ≤ 9223372036854775807) (b3 : -9223372036854775808 ≤ hi ∧ hi ≤ 9223372036854775807) (hm : Last al tx k (fun n p => uGo L k n p []) L p lo hi) :
    Calls Tryz.prog 32 #[.pointer (some ⟨b, 0, none⟩), .bool al, .agg #[.int .i64 (k : Nat), .bool tx], .int .i64 lo, .int .i64 hi] w fun e w2 => ∃ v, e = .returned (.tuple #[v, .int .i64 (rS al tx k (fun n p => uGo L k n p []) L p lo hi).e]) ∧ InAt w2 v (ints (rS al tx k (fun n p => uGo L k n p []) L p lo hi).l) ∧ QAt w2 b (bitsOf L) (rS al tx k (fun n p => uGo L k n p []) L p lo hi).p ∧ Only b w w2 := by
  by_cases hbad : lBad lo hi
  · rw [rS_bad hbad]
    exact rget_bad w b L p al k tx lo hi hq hbad
  by_cases hf : lo = hi ∧ hi ≤ 65535
  · rw [rS_fix hbad hf]
    obtain ⟨rfl, h65⟩ := hf
    obtain ⟨n, rfl⟩ : ∃ n : Nat, lo = n := ⟨lo.toNat, by unfold lBad at hbad; omega⟩
    rw [Int.toNat_natCast]
    exact rget_fix w b L p al k tx n hq hk hL (by omega)
  by_cases he : (gl al L p lo hi).e = 0
  · rw [rS_var hbad hf he]
    cases hal : al with
    | false => subst hal; exact rget_va w b L p false k tx lo hi hq hk hL hbad hf b2 b3 he hm rfl
    | true =>
      subst hal
      by_cases hv : (gl true L p lo hi).v = 0
      · exact rget_vb w b L p true k tx lo hi hq hk hL hbad hf b2 b3 he hm rfl hv
      cases hn : near tx k hi with
      | true => exact rget_vc w b L p true k tx lo hi hq hk hL hbad hf b2 b3 he hm rfl hv hn
      | false =>
        by_cases ha : aerr L (gl true L p lo hi).p = 0
        · exact rget_vd w b L p true k tx lo hi hq hk hL hbad hf b2 b3 he hm rfl hv hn ha
        · exact rget_ve w b L p true k tx lo hi hq hk hL hbad hf b2 b3 he hm rfl hv hn ha
  · rw [rS_err hbad hf he]
    exact rget_err w b L p al k tx lo hi hq hk hL hbad hf b2 b3 he
end Go.Proofs.YtbpfggkpfaobhaaGreat
