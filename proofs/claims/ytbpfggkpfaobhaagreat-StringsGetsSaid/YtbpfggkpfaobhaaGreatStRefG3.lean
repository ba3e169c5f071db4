/-
  The document's answer for package strings: get, where a length is read.
-/
import Derived.Test.YtbpfggkpfaobhaaGreatStRefG2
namespace Go.Proofs.YtbpfggkpfaobhaaGreat
open Go.RowKit Go.Shelf
set_option linter.unusedVariables false
set_option linter.unusedSimpArgs false
set_option maxRecDepth 100000

set_option maxHeartbeats 4000000 in
theorem rget_err (w : World) (b : Nat) (L : List Nat) (p : Nat) (al : Bool) (k : Nat) (tx : Bool) (lo hi : Int) (hq : QAt w b (bitsOf L) p) (hk : k ≤ 8) (hL : L.length ≤ 1000000) (hv : ¬ lBad lo hi) (hf : ¬ (lo = hi ∧ hi ≤ 65535)) (b2 : -9223372036854775808 ≤ lo ∧ lo ≤ 9223372036854775807) (b3 : -9223372036854775808 ≤ hi ∧ hi ≤ 9223372036854775807) (he : (gl al L p lo hi).e ≠ 0) :
    Calls Tryz.prog 32 #[.pointer (some ⟨b, 0, none⟩), .bool al, .agg #[.int .i64 (k : Nat), .bool tx], .int .i64 lo, .int .i64 hi] w fun e w2 => ∃ v, e = .returned (.tuple #[v, .int .i64 (gl al L p lo hi).e]) ∧ InAt w2 v (ints []) ∧ QAt w2 b (bitsOf L) (gl al L p lo hi).p ∧ Only b w w2 := by
  have hb0 := (Below.refl w.heap.size w).alloc (Nat.le_refl _) (.cells #[.int .i64 (k : Nat), .bool tx] 71)
  have hne : w.heap.size ≠ b := by have := hq.lt; omega
  have HK := Lib.hid (show ∀ (w' : World), Only b (w.alloc (.cells #[.int .i64 (k : Nat), .bool tx] 71)) w' → w'.cell? ⟨w.heap.size, 0, none⟩ = some (.int .i64 (k : Nat)) ∧ w'.cell? ⟨w.heap.size, 1, none⟩ = some (.bool tx) from fun w' h => by
    have e := h.block w.heap.size (by simp) hne
    refine ⟨(World.cell?_of_block (a := ⟨w.heap.size, 0, none⟩) e).trans (cell_of_row _ _ _ _ _ _ (heap_alloc_new _ _)), (World.cell?_of_block (a := ⟨w.heap.size, 1, none⟩) e).trans (cell_of_row _ _ _ _ _ _ (heap_alloc_new _ _))⟩)
  have HQ0 := Lib.hid (hq.below hb0)
  have HO0 := Lib.hid (Only.of_below (b := b) hb0)
  have h0 : 0 ≤ lo := by unfold lBad at hv; omega
  have q1 : decide (lo < (0 : Int)) = false := decide_eq_false (by omega)
  have HF := Lib.hid (fun w => rFixed_ok lo hi w)
  rw [fixd_no hf] at HF
  have HC := Lib.hid (fun (w1 : World) (f t : Int) (h : QAt w1 b (bitsOf L) p) (hft : (0 ≤ hi ∧ hi ≤ 65535 ∧ f = lo ∧ t = hi) ∨ (¬ (0 ≤ hi ∧ hi ≤ 65535) ∧ f = 0 ∧ -9223372036854775808 ≤ t ∧ t < 0)) => rcnt6_ok w1 b L p al lo hi f t h hv hL b2 b3 hft)
  by_cases hA : 65535 < hi
  · have c1 : decide ((65535 : Int) < hi) = true := decide_eq_true hA
    have c2 : decide (hi < (0 : Int)) = false := decide_eq_false (by omega)
    have c3 : decide ((0 : Int) ≤ hi) = true := decide_eq_true (by omega)
    have c4 : decide (hi < lo) = false := decide_eq_false (by unfold lBad at hv; omega)
    have HCC := Lib.hid (fun (w1 : World) (h : QAt w1 b (bitsOf L) p) => HC.out w1 0 (-1) h (.inr ⟨by omega, rfl, by omega, by omega⟩))
    obtain ⟨er, her⟩ : ∃ er, (gl al L p lo hi).e = er := ⟨_, rfl⟩
    obtain ⟨cp, hcp⟩ : ∃ cp, (gl al L p lo hi).p = cp := ⟨_, rfl⟩
    rw [her] at he HCC
    rw [hcp] at HCC
    rw [her, hcp]
    obtain ⟨n1, n2⟩ := ne_facts he
    generalize gl al L p lo hi = GG at *
    clear HC hv hf he her hcp hA hq hb0 b2 b3
    go_enter Tryz.func32, Tryz.ntmps32
    go_wp2_with fail
    generalize w.alloc (.cells #[.int .i64 (k : Nat), .bool tx] 71) = W at *
    refine (HF.out _).mono ?_
    rintro e w1 ⟨rfl, rfl⟩
    go_wp2_with fail
    go_loopw [13, 14, 15, 16, 17] (fun av lv fv tv mv wr => av = .slice none 0 0 ∧ lv = .int .i64 65536 ∧ fv = .int .i64 0 ∧ tv = .int .i64 (-1) ∧ mv = .bool true ∧ wr = W) (fun _ _ _ _ _ _ => 0)
    case atStart => exact ⟨rfl, rfl, rfl, rfl, rfl, rfl⟩
    case round =>
      obtain ⟨rfl, rfl, rfl, rfl, rfl, rfl⟩ := hrel
      go_wp2_with fail
      refine (HCC.out _ HQ0.out).mono ?_
      rintro e w2 ⟨n, m, rfl, _, h1, h2⟩
      have H7 := Lib.hid h1
      have H8 := Lib.hid (HO0.out.trans h2)
      clear h1 h2 HCC
      go_wp2_with fail
      go_ret2
      exact ⟨_, rfl, .inl ⟨rfl, rfl⟩, H7.out, H8.out⟩
  by_cases hB : hi < 0
  · have c1 : decide ((65535 : Int) < hi) = false := decide_eq_false (by omega)
    have c2 : decide (hi < (0 : Int)) = true := decide_eq_true hB
    have c3 : decide ((0 : Int) ≤ hi) = false := decide_eq_false (by omega)
    have HCC := Lib.hid (fun (w1 : World) (h : QAt w1 b (bitsOf L) p) => HC.out w1 0 hi h (.inr ⟨by omega, rfl, by omega, by omega⟩))
    obtain ⟨er, her⟩ : ∃ er, (gl al L p lo hi).e = er := ⟨_, rfl⟩
    obtain ⟨cp, hcp⟩ : ∃ cp, (gl al L p lo hi).p = cp := ⟨_, rfl⟩
    rw [her] at he HCC
    rw [hcp] at HCC
    rw [her, hcp]
    obtain ⟨n1, n2⟩ := ne_facts he
    generalize gl al L p lo hi = GG at *
    clear HC hv hf he her hcp hA hq hb0 b2 b3
    go_enter Tryz.func32, Tryz.ntmps32
    go_wp2_with fail
    generalize w.alloc (.cells #[.int .i64 (k : Nat), .bool tx] 71) = W at *
    refine (HF.out _).mono ?_
    rintro e w1 ⟨rfl, rfl⟩
    go_wp2_with fail
    go_loopw [13, 14, 15, 16, 17] (fun av lv fv tv mv wr => av = .slice none 0 0 ∧ lv = .int .i64 65536 ∧ fv = .int .i64 0 ∧ tv = .int .i64 hi ∧ mv = .bool true ∧ wr = W) (fun _ _ _ _ _ _ => 0)
    case atStart => exact ⟨rfl, rfl, rfl, rfl, rfl, rfl⟩
    case round =>
      obtain ⟨rfl, rfl, rfl, rfl, rfl, rfl⟩ := hrel
      go_wp2_with fail
      refine (HCC.out _ HQ0.out).mono ?_
      rintro e w2 ⟨n, m, rfl, _, h1, h2⟩
      have H7 := Lib.hid h1
      have H8 := Lib.hid (HO0.out.trans h2)
      clear h1 h2 HCC
      go_wp2_with fail
      go_ret2
      exact ⟨_, rfl, .inl ⟨rfl, rfl⟩, H7.out, H8.out⟩
  · have c1 : decide ((65535 : Int) < hi) = false := decide_eq_false hA
    have c2 : decide (hi < (0 : Int)) = false := decide_eq_false hB
    have c3 : decide ((0 : Int) ≤ hi) = true := decide_eq_true (by omega)
    have c4 : decide (hi < lo) = false := decide_eq_false (by unfold lBad at hv; omega)
    have HCC := Lib.hid (fun (w1 : World) (h : QAt w1 b (bitsOf L) p) => HC.out w1 lo hi h (.inl ⟨by omega, by omega, rfl, rfl⟩))
    obtain ⟨er, her⟩ : ∃ er, (gl al L p lo hi).e = er := ⟨_, rfl⟩
    obtain ⟨cp, hcp⟩ : ∃ cp, (gl al L p lo hi).p = cp := ⟨_, rfl⟩
    rw [her] at he HCC
    rw [hcp] at HCC
    rw [her, hcp]
    obtain ⟨n1, n2⟩ := ne_facts he
    generalize gl al L p lo hi = GG at *
    clear HC hv hf he her hcp hA hq hb0 b2 b3
    go_enter Tryz.func32, Tryz.ntmps32
    go_wp2_with fail
    generalize w.alloc (.cells #[.int .i64 (k : Nat), .bool tx] 71) = W at *
    refine (HF.out _).mono ?_
    rintro e w1 ⟨rfl, rfl⟩
    go_wp2_with fail
    go_loopw [13, 14, 15, 16, 17] (fun av lv fv tv mv wr => av = .slice none 0 0 ∧ lv = .int .i64 65536 ∧ fv = .int .i64 lo ∧ tv = .int .i64 hi ∧ mv = .bool true ∧ wr = W) (fun _ _ _ _ _ _ => 0)
    case atStart => exact ⟨rfl, rfl, rfl, rfl, rfl, rfl⟩
    case round =>
      obtain ⟨rfl, rfl, rfl, rfl, rfl, rfl⟩ := hrel
      go_wp2_with fail
      refine (HCC.out _ HQ0.out).mono ?_
      rintro e w2 ⟨n, m, rfl, _, h1, h2⟩
      have H7 := Lib.hid h1
      have H8 := Lib.hid (HO0.out.trans h2)
      clear h1 h2 HCC
      go_wp2_with fail
      go_ret2
      exact ⟨_, rfl, .inl ⟨rfl, rfl⟩, H7.out, H8.out⟩
end Go.Proofs.YtbpfggkpfaobhaaGreat
