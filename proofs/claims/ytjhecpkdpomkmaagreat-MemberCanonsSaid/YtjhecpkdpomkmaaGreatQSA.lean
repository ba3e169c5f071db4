/-
  A bundle of texts, one behind the other: MbL3.
-/
import Derived.Test.YtjhecpkdpomkmaaGreatQS
namespace Go.Proofs.YtjhecpkdpomkmaaGreat
open Go.RowKit
set_option linter.unusedVariables false
set_option linter.unusedSimpArgs false
set_option maxRecDepth 100000

def smallP (r : DT) : Prop := r.set.n ≤ 30 ∧ r.nm.n ≤ 60 ∧ r.mo.n ≤ 60 ∧ r.pa.n ≤ 30 ∧ r.ad.n ≤ 30 ∧ r.ord.n ≤ 100
def RelSm (w : World) (d : TB) (iv : Value) (wr : World) : Prop := ∃ i : Nat, i ≤ d.n ∧ iv = .int .i64 (i : Nat) ∧ (∀ j, j < i → smallP (d.f j)) ∧ Below w.heap.size w wr
def RelSk (w : World) (n : Nat) (iv : Value) (wr : World) : Prop := ∃ k : Nat, k ≤ n ∧ iv = .int .i64 (k : Nat) ∧ Below w.heap.size w wr
set_option maxHeartbeats 32000000 in
theorem small_ok (B : Nat) (w : World) (d : TB) (hd : TBIn B w d) (hB : B ≤ w.heap.size) :
    Calls Tryz.prog 11 #[.slice d.a d.n d.cap] w fun e w' => ∃ r : Bool, e = .returned (.bool r) ∧ (r = true → d.n ≤ 60 ∧ ∀ i, i < d.n → smallP (d.f i)) ∧ Below w.heap.size w w' := by
  have HD := Lib.hid (hd.below (Below.refl w.heap.size w) hB)
  have HB0 := Lib.hid (Below.refl w.heap.size w)
  have hdn : d.n ≤ 140737488355328 := hd.1.2.1
  clear hd hB
  by_cases hn : d.n ≤ 60
  · have q0 : decide ((60 : Int) < (d.n : Int)) = false := decide_eq_false (by omega)
    go_enter Tryz.func11, Tryz.ntmps11
    go_wp2_with fail
    go_loopw [3] (fun iv wr => RelSm w d iv wr) (fun iv _ => d.n - (Lib.intOf iv).toNat)
    case atStart => exact ⟨0, Nat.zero_le _, rfl, fun j hj => absurd hj (Nat.not_lt_zero _), HB0.out⟩
    case round =>
      obtain ⟨i, hi, rfl, hall, hbel⟩ := hrel
      have HAL := Lib.hid hall
      have HBR := Lib.hid hbel
      clear hall hbel
      by_cases hlt : i < d.n
      · have q1 : decide ((i : Int) < (d.n : Int)) = true := decide_eq_true (by omega)
        have q1n : decide (i < d.n) = true := decide_eq_true hlt
        have q3 : IntKind.i64.wrap ((i : Int) + 1) = ((i + 1 : Nat) : Int) := wrap_succ hlt (by omega)
        obtain ⟨gx, ox, hix, hgx, hrd⟩ := HD.out.1.read 22 46 Tryz.underlying22 (by kernel_rfl) Tryz.sizeOf46 hlt
        have hrx := hrd wr (HBR.out.block gx hgx)
        have HRX := Lib.hid hrx
        have HDI := Lib.hid (HD.out.2 i hlt)
        have g2 := hrx 2 _ rfl
        have g6 := hrx 6 _ rfl
        have g7 := hrx 7 _ rfl
        have g8 := hrx 8 _ rfl
        have g9 := hrx 9 _ rfl
        have g10 := hrx 10 _ rfl
        obtain ⟨k0, hk0⟩ : ∃ k, (d.f i).set.n = k := ⟨_, rfl⟩
        obtain ⟨k1, hk1⟩ : ∃ k, (d.f i).nm.n = k := ⟨_, rfl⟩
        obtain ⟨k2, hk2⟩ : ∃ k, (d.f i).mo.n = k := ⟨_, rfl⟩
        obtain ⟨k3, hk3⟩ : ∃ k, (d.f i).pa.n = k := ⟨_, rfl⟩
        obtain ⟨k4, hk4⟩ : ∃ k, (d.f i).ad.n = k := ⟨_, rfl⟩
        obtain ⟨k5, hk5⟩ : ∃ k, (d.f i).ord.n = k := ⟨_, rfl⟩
        have HKS := Lib.hid (And.intro hk0 (And.intro hk1 (And.intro hk2 (And.intro hk3 (And.intro hk4 hk5)))))
        simp only [RS.v, SL.v, FL.v, NL.v, hk0, hk1, hk2, hk3, hk4, hk5] at g2 g6 g7 g8 g9 g10
        clear hrx hrd hk0 hk1 hk2 hk3 hk4 hk5
        by_cases h0 : k0 ≤ 30
        · have r0 : decide ((30 : Int) < (k0 : Int)) = false := decide_eq_false (by omega)
          by_cases h1 : k1 ≤ 60
          · have r1 : decide ((60 : Int) < (k1 : Int)) = false := decide_eq_false (by omega)
            by_cases h2 : k2 ≤ 60
            · have r2 : decide ((60 : Int) < (k2 : Int)) = false := decide_eq_false (by omega)
              by_cases h3 : k3 ≤ 30
              · have r3 : decide ((30 : Int) < (k3 : Int)) = false := decide_eq_false (by omega)
                by_cases h4 : k4 ≤ 30
                · have r4 : decide ((30 : Int) < (k4 : Int)) = false := decide_eq_false (by omega)
                  by_cases h5 : k5 ≤ 100
                  · have r5 : decide ((100 : Int) < (k5 : Int)) = false := decide_eq_false (by omega)
                    have HSM := Lib.hid (fun (hk : (d.f i).set.n = k0 ∧ (d.f i).nm.n = k1 ∧ (d.f i).mo.n = k2 ∧ (d.f i).pa.n = k3 ∧ (d.f i).ad.n = k4 ∧ (d.f i).ord.n = k5) => (⟨by omega, by omega, by omega, by omega, by omega, by omega⟩ : smallP (d.f i)))
                    have HSI := Lib.hid (HSM.out HKS.out)
                    have HFD := Lib.hid (Fields_ok w.heap.size wr (d.f i) (HDI.out.below HBR.out (Nat.le_refl _)) HBR.out.size (by have := HKS.out.2.2.2.1; omega) (by have := HKS.out.2.2.2.2.1; omega))
                    go_wp2_with (refine wpList_load_mid rfl 46 (.tmp 69) rfl gx ox rfl (d.f i).cells _ HRX.out Tryz.underlying46 rfl (by rw [info_D]; rfl) ?_)
                    refine HFD.out.mono ?_
                    rintro e w5 ⟨v5, rfl, hpr, h5⟩
                    have HPR := Lib.hid hpr
                    have HB5 := Lib.hid (HBR.out.trans (h5.mono HBR.out.size))
                    obtain ⟨av, cv, hv5, hncv, _⟩ := hpr
                    have hcnt : (d.f i).count ≤ 60 := by have := HKS.out; unfold DT.count; omega
                    clear h5 g2 g6 g7 g8 g9 g10
                    subst hv5
                    go_wp2_with fail
                    generalize hcn : (d.f i).count = CN at *
                    go_loopw [5] (fun iv wr => RelSk w5 CN iv wr) (fun iv _ => CN - (Lib.intOf iv).toNat)
                    case atStart => exact ⟨0, Nat.zero_le _, rfl, Below.refl _ _⟩
                    case round =>
                      obtain ⟨k, hk, rfl, hbk⟩ := hrel
                      have HBK := Lib.hid hbk
                      have HBKW := Lib.hid (HB5.out.trans (hbk.mono HB5.out.size))
                      clear hbk
                      by_cases hlt2 : k < CN
                      · have q5 : decide ((k : Int) < (CN : Int)) = true := decide_eq_true (by omega)
                        have q5n : decide (k < CN) = true := decide_eq_true hlt2
                        have q6 : IntKind.i64.wrap ((k : Int) + 1) = ((k + 1 : Nat) : Int) := wrap_succ hlt2 (by omega)
                        obtain ⟨a2, c2, e2, _, hget⟩ := HPR.out
                        obtain ⟨gf, of, hixf, hgf1, hgf2, hrf⟩ := hget k hlt2
                        have f3 := hrf 3 _ rfl
                        have f3' := (HBK.out.cell (p := ⟨gf, of + 3, none⟩) hgf2).trans f3
                        have HFV := Lib.hid (FewValues_ok w.heap.size wr ((d.f i).part k).d 30 ((((HDI.out.part (by rw [hcn]; exact hlt2)).2.2).below HBKW.out (Nat.le_refl _))) HBKW.out.size (by omega) (by omega))
                        generalize decide (0 ≤ DL.fewD ((d.f i).part k).d 30) = z at *
                        clear hget hrf f3 e2
                        cases z with
                        | true =>
                          go_wp2_with fail
                          refine HFV.out.mono ?_
                          rintro e w7 ⟨rfl, h7⟩
                          have HB7 := Lib.hid (HBK.out.trans (h7.mono HBK.out.size))
                          clear h7
                          go_wp2_with fail
                          go_roundw
                          case rel => exact ⟨k + 1, hlt2, rfl, HB7.out⟩
                          case measure => simp only [Lib.intOf]; omega
                        | false =>
                          go_wp2_with fail
                          refine HFV.out.mono ?_
                          rintro e w7 ⟨rfl, h7⟩
                          have HB7 := Lib.hid (HBKW.out.trans (h7.mono HBKW.out.size))
                          clear h7
                          go_wp2_with fail
                          go_ret
                          exact ⟨false, rfl, fun h => (by cases h), HB7.out⟩
                      · have q5 : decide ((k : Int) < (CN : Int)) = false := decide_eq_false (by omega)
                        have q5n : decide (k < CN) = false := decide_eq_false hlt2
                        go_wp2_with fail
                        go_roundw
                        case rel => exact ⟨i + 1, hlt, rfl, fun j hj => by
                          rcases Nat.lt_or_ge j i with h | h
                          · exact HAL.out j h
                          · rw [show j = i by omega]; exact HSI.out, HBKW.out⟩
                        case measure => simp only [Lib.intOf]; omega
                  · have r5 : decide ((100 : Int) < (k5 : Int)) = true := decide_eq_true (by omega)
                    go_wp2_with fail
                    go_ret
                    exact ⟨false, rfl, fun h => (by cases h), HBR.out⟩
                · have r4 : decide ((30 : Int) < (k4 : Int)) = true := decide_eq_true (by omega)
                  go_wp2_with fail
                  go_ret
                  exact ⟨false, rfl, fun h => (by cases h), HBR.out⟩
              · have r3 : decide ((30 : Int) < (k3 : Int)) = true := decide_eq_true (by omega)
                go_wp2_with fail
                go_ret
                exact ⟨false, rfl, fun h => (by cases h), HBR.out⟩
            · have r2 : decide ((60 : Int) < (k2 : Int)) = true := decide_eq_true (by omega)
              go_wp2_with fail
              go_ret
              exact ⟨false, rfl, fun h => (by cases h), HBR.out⟩
          · have r1 : decide ((60 : Int) < (k1 : Int)) = true := decide_eq_true (by omega)
            go_wp2_with fail
            go_ret
            exact ⟨false, rfl, fun h => (by cases h), HBR.out⟩
        · have r0 : decide ((30 : Int) < (k0 : Int)) = true := decide_eq_true (by omega)
          go_wp2_with fail
          go_ret
          exact ⟨false, rfl, fun h => (by cases h), HBR.out⟩
      · have q1 : decide ((i : Int) < (d.n : Int)) = false := decide_eq_false (by omega)
        have q1n : decide (i < d.n) = false := decide_eq_false hlt
        obtain rfl : i = d.n := by omega
        go_wp2_with fail
        go_ret
        exact ⟨true, rfl, fun _ => ⟨hn, HAL.out⟩, HBR.out⟩
  · have q0 : decide ((60 : Int) < (d.n : Int)) = true := decide_eq_true (by omega)
    go_enter Tryz.func11, Tryz.ntmps11
    go_wp2_with fail
    go_ret
    exact ⟨false, rfl, fun h => (by cases h), HB0.out⟩
end Go.Proofs.YtjhecpkdpomkmaaGreat
