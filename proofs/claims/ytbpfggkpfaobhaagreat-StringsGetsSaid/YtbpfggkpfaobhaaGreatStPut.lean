/-
  Package strings: put and putPart, whose units are written by a function value (fewer than 16384 units).
-/
import Derived.Test.YtbpfggkpfaobhaaGreatStLay
import Derived.Test.YtbpfggkpfaobhaaGreatLen
import Derived.Shelf.Abstract
namespace Go.Proofs.YtbpfggkpfaobhaaGreat
open Go.RowKit Go.Shelf
set_option linter.unusedVariables false
set_option linter.unusedSimpArgs false
set_option maxRecDepth 100000

/-- the function value fn (behind it what it captured) writes the bits U of n units -/
def Units (fn : FuncId) (first cap : Array Value) (b : Nat) (n : Nat) (U : List Bool) (w : World) : Prop :=
  ∀ (w1 : World) (B : List Bool), Only b w w1 → WrAt w1 b B → B.length ≤ 1000000 → Calls Tryz.prog fn (first ++ #[.int .i64 0, .int .i64 (n : Nat)] ++ cap) w1 fun e w2 => e = .returned (.int .i64 0) ∧ WrAt w2 b (B ++ U) ∧ Only b w1 w2
theorem Units.only {fn : FuncId} {first cap : Array Value} {b n : Nat} {U : List Bool} {w w' : World} (h : Units fn first cap b n U w) (ho : Only b w w') : Units fn first cap b n U w' :=
  fun w1 B h1 => h w1 B (ho.trans h1)
theorem sputPart_ok (w : World) (b : Nat) (B : List Bool) (al : Bool) (lo hi : Int) (k : Nat) (tx : Bool) (n : Nat) (fn : FuncId) (cap : Array Value) (U : List Bool) (hen : Enters Tryz.prog fn)
    (h : WrAt w b B) (hu : Units fn #[] cap b n U w) (hv : ¬ lBad lo hi) (hk : k ≤ 8) (hn : n ≤ 1048576) (hB : B.length ≤ 900000) :
    Calls Tryz.prog 63 #[.pointer (some ⟨b, 0, none⟩), .agg #[.bool al, .int .i64 lo, .int .i64 hi, .int .i64 (k : Nat), .bool tx], .int .i64 0, .int .i64 (n : Nat), .func (.func fn) #[] cap] w fun e w' =>
      e = .returned (.int .i64 0) ∧ WrAt w' b (lead (algn al tx k n lo hi) B ++ U) ∧ Only b w w' := by
  have hpl := padded_le B
  have h0 := (Below.refl w.heap.size w).alloc (Nat.le_refl _) (.cells #[.bool al, .int .i64 lo, .int .i64 hi, .int .i64 (k : Nat), .bool tx] 64)
  have hbw := h.lt
  have HC := Lib.hid (LayAt.new w al lo hi k tx)
  have HA := Lib.hid (saligns_ok al lo hi k tx n (w.alloc (.cells #[.bool al, .int .i64 lo, .int .i64 hi, .int .i64 (k : Nat), .bool tx] 64)) hv hk hn)
  have HW := Lib.hid (h.below h0)
  have hsub : ((n : Int) - 0) = (n : Int) := by omega
  have HU := Lib.hid hu
  have hen : ∀ (args : Array Value) (w : World), (callFunc fn args).run Tryz.prog w = .ok (.enter fn args) w := hen
  clear h hu hv
  generalize algn al tx k n lo hi = c at *
  cases c with
  | false =>
    go_enter Tryz.func63, Tryz.ntmps63
    go_wp2_with fail
    refine HA.out.mono ?_
    rintro e w1 ⟨rfl, hb1⟩
    have H1 := Lib.hid (Only.of_below (b := b) (h0.trans (hb1.mono (by simp))))
    have HW1 := Lib.hid (HW.out.below hb1)
    clear hb1 h0 HW HC
    go_wp2_with fail
    refine (HU.out w1 B H1.out HW1.out (by omega)).mono ?_
    rintro e w2 ⟨rfl, h1, h2⟩
    have H2 := Lib.hid h1
    have H3 := Lib.hid (H1.out.trans h2)
    clear h1 h2 H1 HW1 HU
    go_wp2_with fail
    go_ret
    exact ⟨rfl, H2.out, H3.out⟩
  | true =>
    go_enter Tryz.func63, Tryz.ntmps63
    go_wp2_with fail
    refine HA.out.mono ?_
    rintro e w1 ⟨rfl, hb1⟩
    have H1 := Lib.hid (Only.of_below (b := b) (h0.trans (hb1.mono (by simp))))
    have HW1 := Lib.hid (HW.out.below hb1)
    clear hb1 h0 HW HC
    go_wp2_with fail
    refine (align_ok w1 b B HW1.out (by omega)).mono ?_
    rintro e w2 ⟨rfl, h1, h2⟩
    have HW2 := Lib.hid h1
    have H2 := Lib.hid (H1.out.trans h2)
    clear h1 h2 H1 HW1
    go_wp2_with fail
    refine (HU.out w2 (padded B) H2.out HW2.out (by omega)).mono ?_
    rintro e w3 ⟨rfl, h1, h2⟩
    have H3 := Lib.hid h1
    have H4 := Lib.hid (H2.out.trans h2)
    clear h1 h2 H2 HW2 HU
    go_wp2_with fail
    go_ret
    exact ⟨rfl, H3.out, H4.out⟩
def boolN : Value → Nat | .bool true => 1 | _ => 0
def RelSP (w0 : World) (b g : Nat) (B T : List Bool) (al : Bool) (lo hi : Int) (k : Nat) (tx : Bool) (vl vh fr mo : Value) (wr : World) : Prop :=
  Only b w0 wr ∧ LayAt wr g al lo hi k tx ∧ ((mo = .bool true ∧ fr = .int .i64 0 ∧ vl = .int .i64 lo ∧ vh = .int .i64 hi ∧ WrAt wr b B) ∨ (mo = .bool false ∧ WrAt wr b T))
set_option maxHeartbeats 1000000 in
theorem sput_ok (w : World) (b : Nat) (B : List Bool) (al : Bool) (lo hi : Int) (k : Nat) (tx : Bool) (n : Nat) (fn : FuncId) (cap : Array Value) (U : List Bool) (hen : Enters Tryz.prog fn)
    (h : WrAt w b B) (hu : Units fn #[] cap b n U w) (hv : ¬ lBad lo hi) (hk : k ≤ 8) (hn : n < 16384) (b2 : -9223372036854775808 ≤ lo ∧ lo ≤ 9223372036854775807) (b3 : -9223372036854775808 ≤ hi ∧ hi ≤ 9223372036854775807) (hB : B.length ≤ 800000) :
    Calls Tryz.prog 40 #[.pointer (some ⟨b, 0, none⟩), .agg #[.bool al, .int .i64 lo, .int .i64 hi, .int .i64 (k : Nat), .bool tx], .int .i64 (n : Nat), .func (.func fn) #[] cap] w fun e w' =>
      e = .returned (.int .i64 (sE n lo hi)) ∧ WrAt w' b (if sE n lo hi = 0 then stP al tx k B n lo hi ++ U else B) ∧ Only b w w' := by
  have h0 := (Below.refl w.heap.size w).alloc (Nat.le_refl _) (.cells #[.bool al, .int .i64 lo, .int .i64 hi, .int .i64 (k : Nat), .bool tx] 64)
  have hbw := h.lt
  have HC := Lib.hid (LayAt.new w al lo hi k tx)
  have HAd := Lib.hid (fun b hb => sadmits_ok al lo hi k tx n (w.alloc (.cells #[.bool al, .int .i64 lo, .int .i64 hi, .int .i64 (k : Nat), .bool tx] 64)) b hb)
  have HW := Lib.hid (h.below h0)
  have HU := Lib.hid hu
  have q0 : decide ((1048576 : Int) < (n : Int)) = false := decide_eq_false (by omega)
  clear h hu
  by_cases hc : (n : Int) < lo ∨ (0 ≤ hi ∧ hi < (n : Int))
  · rw [sE_con hv hc, if_neg (by decide)]
    have HA := Lib.hid (HAd.out false (by rw [eq_comm, decide_eq_false_iff_not]; exact fun h => h hc))
    clear HAd HU hc
    go_enter Tryz.func40, Tryz.ntmps40
    go_wp2_with fail
    refine HA.out.mono ?_
    rintro e w1 ⟨rfl, hb1⟩
    have H1 := Lib.hid (Only.of_below (b := b) (h0.trans (hb1.mono (by simp))))
    have HW1 := Lib.hid (HW.out.below hb1)
    clear hb1 h0 HW HC
    go_wp2_with fail
    go_ret
    exact ⟨rfl, HW1.out, H1.out⟩
  have hs := sE_ok hv hc (show n ≤ 1048576 by omega)
  rw [hs, if_pos rfl]
  have hle := sE_lErr hs
  have HA := Lib.hid (HAd.out true (by rw [eq_comm, decide_eq_true_eq]; exact hc))
  clear HAd
  by_cases hf : lo = hi ∧ hi ≤ 65535
  · rw [stP_fix hf]
    have HF := Lib.hid (fun w1 => sfixed_ok al lo hi k tx w1 hv true (fixd_yes hf).symm)
    have HP := Lib.hid (fun (w1 : World) (h1 : Only b w w1) (h2 : WrAt w1 b B) => sputPart_ok w1 b B al lo hi k tx n fn cap U hen h2 (HU.out.only h1) hv hk (by omega) (by omega))
    generalize lead (algn al tx k n lo hi) B ++ U = T at *
    clear hf hc hs hle HU
    go_enter Tryz.func40, Tryz.ntmps40
    go_wp2_with fail
    refine HA.out.mono ?_
    rintro e w1 ⟨rfl, hb1⟩
    have H1 := Lib.hid (Only.of_below (b := b) (h0.trans (hb1.mono (by simp))))
    have HW1 := Lib.hid (HW.out.below hb1)
    have HC1 := Lib.hid (HC.out.below hb1)
    obtain ⟨c0, c1, c2, c3, c4⟩ := HC1.out.cells
    clear hb1 h0 HW HC
    go_wp2_with fail
    refine (HF.out w1).mono ?_
    rintro e w2 ⟨rfl, hb1⟩
    clear c0 c1 c2 c3 c4
    have H2 := Lib.hid (H1.out.trans (Only.of_below hb1))
    have HW2 := Lib.hid (HW1.out.below hb1)
    have HC2 := Lib.hid (HC1.out.below hb1)
    obtain ⟨c0, c1, c2, c3, c4⟩ := HC2.out.cells
    clear hb1 H1 HW1 HC1
    go_wp2_with fail
    refine (HP.out w2 H2.out HW2.out).mono ?_
    rintro e w3 ⟨rfl, h1, h2⟩
    have H3 := Lib.hid h1
    have H4 := Lib.hid (H2.out.trans h2)
    clear h1 h2 H2 HW2 HC2 c0 c1 c2 c3 c4
    go_wp2_with fail
    go_ret
    exact ⟨rfl, H3.out, H4.out⟩
  · rw [stP_var hf]
    have HF := Lib.hid (fun w1 => sfixed_ok al lo hi k tx w1 hv false (fixd_no hf).symm)
    obtain ⟨p2, p3⟩ := one_len hle hn
    have hll := lBits_le al B n lo hi (by omega) b2 b3
    have HL := Lib.hid (fun (w1 : World) (h2 : WrAt w1 b B) => lput_any w1 b B al n lo hi h2 (by omega) b2 b3 (by omega))
    rw [p2, p3, hle] at HL
    have HP := Lib.hid (fun (w1 : World) (h1 : Only b w w1) (h2 : WrAt w1 b (lBits al B n lo hi)) => sputPart_ok w1 b _ al lo hi k tx n fn cap U hen h2 (HU.out.only h1) hv hk (by omega) (by omega))
    generalize lead (algn al tx k n lo hi) (lBits al B n lo hi) ++ U = T at *
    generalize lBits al B n lo hi = B1 at *
    clear hf hc hs hle HU p2 p3
    go_enter Tryz.func40, Tryz.ntmps40
    go_wp2_with fail
    refine HA.out.mono ?_
    rintro e w1 ⟨rfl, hb1⟩
    have H1 := Lib.hid (Only.of_below (b := b) (h0.trans (hb1.mono (by simp))))
    have HW1 := Lib.hid (HW.out.below hb1)
    have HC1 := Lib.hid (HC.out.below hb1)
    obtain ⟨c0, c1, c2, c3, c4⟩ := HC1.out.cells
    clear hb1 h0 HW HC
    go_wp2_with fail
    refine (HF.out w1).mono ?_
    rintro e w2 ⟨rfl, hb1⟩
    clear c0 c1 c2 c3 c4
    have H2 := Lib.hid (H1.out.trans (Only.of_below hb1))
    have HW2 := Lib.hid (HW1.out.below hb1)
    have HC2 := Lib.hid (HC1.out.below hb1)
    obtain ⟨c0, c1, c2, c3, c4⟩ := HC2.out.cells
    clear hb1 H1 HW1 HC1
    go_wp2_with fail
    go_region
    all_goals go_wp2_with fail
    have H3 := Lib.hid H2.out.drew
    have HW3 := Lib.hid (HW2.out.below ((Below.refl _ _).drew))
    have HC3 := Lib.hid (show LayAt w2.drew w.heap.size al lo hi k tx from HC2.out)
    clear c0 c1 c2 c3 c4 H2 HW2 HC2
    generalize w2.drew = w3 at *
    go_loopw [9, 10, 11, 12] (fun vl vh fr mo wr => RelSP w b w.heap.size B T al lo hi k tx vl vh fr mo wr) (fun _ _ _ mo _ => boolN mo)
    case atStart => exact ⟨H3.out, HC3.out, .inl ⟨rfl, rfl, rfl, rfl, HW3.out⟩⟩
    case round =>
      clear H3 HW3 HC3
      obtain ⟨ho, hl, ⟨rfl, rfl, rfl, rfl, hw⟩ | ⟨rfl, hw⟩⟩ := hrel
      · have H4 := Lib.hid ho
        have HW4 := Lib.hid hw
        have HC4 := Lib.hid hl
        obtain ⟨c0, c1, c2, c3, c4⟩ := HC4.out.cells
        clear ho hl hw
        go_wp2_with fail
        refine (HL.out wr HW4.out).mono ?_
        rintro e w5 ⟨rfl, h1, h2⟩
        clear c0 c1 c2 c3 c4
        have H5 := Lib.hid (H4.out.trans h2)
        have HW5 := Lib.hid h1
        have HC5 := Lib.hid (HC4.out.only h2 (by omega))
        obtain ⟨c0, c1, c2, c3, c4⟩ := HC5.out.cells
        clear h1 h2 H4 HW4 HC4
        go_wp2_with fail
        refine (HP.out w5 H5.out HW5.out).mono ?_
        rintro e w6 ⟨rfl, h1, h2⟩
        clear c0 c1 c2 c3 c4
        have H6 := Lib.hid (H5.out.trans h2)
        have HW6 := Lib.hid h1
        have HC6 := Lib.hid (HC5.out.only h2 (by omega))
        clear h1 h2 H5 HW5 HC5
        go_wp2_with fail
        all_goals go_roundw
        case rel => exact ⟨H6.out, HC6.out, .inr ⟨rfl, HW6.out⟩⟩
        case measure => simp [boolN]
      · have H4 := Lib.hid ho
        have HW4 := Lib.hid hw
        clear ho hl hw
        go_wp2_with fail
        go_ret
        exact ⟨rfl, HW4.out, H4.out⟩
end Go.Proofs.YtbpfggkpfaobhaaGreat
