/-
  A bundle of texts, one behind the other: ShNL.
-/
import Derived.Test.YtgmnojnalkhepaaGreatDoorKF
import Derived.Test.YtgmnojnalkhepaaGreatDoorJM
import Derived.Test.YtgmnojnalkhepaaGreatDoorKI
import Derived.Test.YtgmnojnalkhepaaGreatDoorJF
/-
  Law 08's own count of a module ('few').
-/
namespace Go.Proofs.YtgmnojnalkhepaaGreatDoor
open Go.RowKit
set_option linter.unusedVariables false
set_option linter.unusedSimpArgs false
set_option maxRecDepth 100000

/-- some truth -/
def SomeB (e : Ending) : Prop := ∃ b : Bool, e = .returned (.bool b)
theorem info_M : (Tryz.prog.info? 25).map (·.size) = some 4 := by kernel_rfl
def RelLf (w : World) (n : Nat) (cs : Array Value) (iv : Value) (wr : World) : Prop :=
  ∃ i : Nat, i ≤ n ∧ iv = .int .i64 (i : Nat) ∧ Bx wr w.heap.size cs 25 ∧ Below w.heap.size w wr
set_option maxHeartbeats 8000000 in
theorem fewM_ok (m : MT) (w : World) (hm : MIn w.heap.size w m) :
    Calls Tryz.prog 5 #[.agg m.cells.toArray, .int .i64 300] w fun e w' => SomeB e ∧ Below w.heap.size w w' := by
  obtain ⟨name, auto, ia, ni, icap, im, da, nd, dcap, df⟩ := m
  have HX := Lib.hid (Bx.new w #[.string name, .bool auto, .slice ia ni icap, .slice da nd dcap] 25)
  have HB0 := Lib.hid ((Below.refl w.heap.size w).alloc (Nat.le_refl _) (.cells #[.string name, .bool auto, .slice ia ni icap, .slice da nd dcap] 25))
  have HRI := Lib.hid (fun (W : World) (hb : Below w.heap.size w W) => (hm.below hb (Nat.le_refl _)).2.1)
  have HRD := Lib.hid (fun (W : World) (hb : Below w.heap.size w W) => (hm.below hb (Nat.le_refl _)).2.2)
  have hnd : nd ≤ 9223372036854775807 := by have h1 := hm.2.2.1.1; have h2 := hm.2.2.1.2.1; dsimp only at h1 h2; omega
  have hni : ni ≤ 9223372036854775807 := by have h1 := hm.2.1.1.1; have h2 := hm.2.1.1.2.1; dsimp only at h1 h2; omega
  have c2 := HX.out.cell 2 (v := .slice ia ni icap) rfl
  have c3 := HX.out.cell 3 (v := .slice da nd dcap) rfl
  clear hm
  show Calls _ _ #[.agg #[.string name, .bool auto, .slice ia ni icap, .slice da nd dcap], .int .i64 300] w _
  by_cases h1 : 300 < nd
  · have q1 : decide ((300 : Int) < (nd : Int)) = true := decide_eq_true (by omega)
    have q1n : decide (300 < nd) = true := decide_eq_true h1
    go_enter Tryz.func5, Tryz.ntmps5
    go_wp2_with fail
    go_ret
    exact ⟨⟨_, rfl⟩, HB0.out⟩
  have q1 : decide ((300 : Int) < (nd : Int)) = false := decide_eq_false (by omega)
  have q1n : decide (300 < nd) = false := decide_eq_false h1
  by_cases h2 : 300 < ni
  · have q2 : decide ((300 : Int) < (ni : Int)) = true := decide_eq_true (by omega)
    have q2n : decide (300 < ni) = true := decide_eq_true h2
    go_enter Tryz.func5, Tryz.ntmps5
    go_wp2_with fail
    go_ret
    exact ⟨⟨_, rfl⟩, HB0.out⟩
  have q2 : decide ((300 : Int) < (ni : Int)) = false := decide_eq_false (by omega)
  have q2n : decide (300 < ni) = false := decide_eq_false h2
  go_enter Tryz.func5, Tryz.ntmps5
  go_wp2_with fail
  clear c2 c3 q1 q1n q2 q2n h1 h2
  go_loopw [5] (fun iv wr => RelLf w nd #[.string name, .bool auto, .slice ia ni icap, .slice da nd dcap] iv wr) (fun iv _ => nd - (Lib.intOf iv).toNat)
  case atStart => exact ⟨0, Nat.zero_le _, rfl, HX.out, HB0.out⟩
  case round =>
    obtain ⟨j, hj, rfl, hbx, hbel⟩ := hrel
    have HB3 := Lib.hid hbel
    have HX3 := Lib.hid hbx
    have c3 := hbx.cell 3 (v := .slice da nd dcap) rfl
    have hsz := hbel.size
    clear hbel hbx
    by_cases hjl : j < nd
    · have p3 : decide ((j : Int) < (nd : Int)) = true := decide_eq_true (by omega)
      have p3n : decide (j < nd) = true := decide_eq_true hjl
      have q4 : IntKind.i64.wrap ((j : Int) + 1) = ((j + 1 : Nat) : Int) := wrap_succ hjl hnd
      obtain ⟨gx, ox, hix, hgx, hrd⟩ := dRow_read (HRD.out _ HB3.out).1 hjl
      have hrng := Lib.hid (range_dt (hrd wr rfl))
      have H15 := Lib.hid (one_tcells ((HRD.out _ HB3.out).2 j hjl).2)
      have HF := Lib.hid (Few_ok (df j).t w.heap.size 300 wr ((HRD.out _ HB3.out).2 j hjl).2 hsz (by omega) (by omega))
      obtain ⟨t, ht⟩ : ∃ t, (df j).t = t := ⟨_, rfl⟩
      rw [ht] at hrng H15 HF
      obtain ⟨fb, hfb⟩ : ∃ fb, decide (0 ≤ t.few 300) = fb := ⟨_, rfl⟩
      rw [hfb] at HF
      clear hfb ht hrd
      go_wp2_with (refine wpList_load_mid rfl 39 (.tmp 30) rfl gx (ox + 1) rfl t.cells _ hrng.out Tryz.underlying39 rfl (by rw [info_T, H15.out.1]) ?_)
      refine HF.out.mono ?_
      rintro e w3 ⟨rfl, hb⟩
      have HB4 := Lib.hid (HB3.out.trans (hb.mono hsz))
      have HX4 := Lib.hid (HX3.out.below hb HX3.out.lt)
      clear hb HF
      cases fb with
      | false =>
        go_wp2_with fail
        go_ret
        exact ⟨⟨_, rfl⟩, HB4.out⟩
      | true =>
        go_wp2_with fail
        go_roundw
        case rel => exact ⟨j + 1, hjl, rfl, HX4.out, HB4.out⟩
        case measure => simp only [Lib.intOf]; omega
    · have p3 : decide ((j : Int) < (nd : Int)) = false := decide_eq_false (by omega)
      have p3n : decide (j < nd) = false := decide_eq_false hjl
      go_wp2_with fail
      clear p3 p3n c3 hsz
      obtain ⟨WA, hWA⟩ : ∃ W, wr = W := ⟨_, rfl⟩
      rw [hWA]
      rw [hWA] at HB3 HX3
      go_loopw [6] (fun iv wr => RelLf w ni #[.string name, .bool auto, .slice ia ni icap, .slice da nd dcap] iv wr) (fun iv _ => ni - (Lib.intOf iv).toNat)
      case atStart => exact ⟨0, Nat.zero_le _, rfl, HX3.out, HB3.out⟩
      case round =>
        obtain ⟨i, hi, rfl, hbx, hbel⟩ := hrel
        have HB5 := Lib.hid hbel
        have HX5 := Lib.hid hbx
        have c2 := hbx.cell 2 (v := .slice ia ni icap) rfl
        clear hbel hbx
        by_cases hlt : i < ni
        · have q2 : decide ((i : Int) < (ni : Int)) = true := decide_eq_true (by omega)
          have q2n : decide (i < ni) = true := decide_eq_true hlt
          have q3 : IntKind.i64.wrap ((i : Int) + 1) = ((i + 1 : Nat) : Int) := wrap_succ hlt hni
          obtain ⟨gx, ox, hix, hgx, hrd⟩ := iRow_read (HRI.out _ HB5.out).1 hlt
          obtain ⟨k0, _⟩ := hrd _ rfl
          obtain ⟨na, hna⟩ : ∃ x, (im i).nm.a = x := ⟨_, rfl⟩
          obtain ⟨nn, hnn⟩ : ∃ x, (im i).nm.n = x := ⟨_, rfl⟩
          obtain ⟨nc, hnc⟩ : ∃ x, (im i).nm.cap = x := ⟨_, rfl⟩
          rw [hna, hnn, hnc] at k0
          clear hrd hna hnn hnc
          by_cases h6 : 600 < nn
          · have r2 : decide ((600 : Int) < (nn : Int)) = true := decide_eq_true (by omega)
            have r2n : decide (600 < nn) = true := decide_eq_true h6
            go_wp2_with fail
            go_ret
            exact ⟨⟨_, rfl⟩, HB5.out⟩
          · have r2 : decide ((600 : Int) < (nn : Int)) = false := decide_eq_false (by omega)
            have r2n : decide (600 < nn) = false := decide_eq_false h6
            go_wp2_with fail
            go_roundw
            case rel => exact ⟨i + 1, hlt, rfl, HX5.out, HB5.out⟩
            case measure => simp only [Lib.intOf]; omega
        · have q2 : decide ((i : Int) < (ni : Int)) = false := decide_eq_false (by omega)
          have q2n : decide (i < ni) = false := decide_eq_false hlt
          go_wp2_with fail
          go_ret
          exact ⟨⟨_, rfl⟩, HB5.out⟩
theorem keyword_below (s : ByteArray) (w : World) : Calls Tryz.prog 10 #[.string s] w fun e w' => e = .returned (.bool (kwd s)) ∧ Below w.heap.size w w' :=
  (keyword_ok s w).mono fun e w' h => ⟨h.1, h.2 ▸ Below.refl _ _⟩
end Go.Proofs.YtgmnojnalkhepaaGreatDoor
