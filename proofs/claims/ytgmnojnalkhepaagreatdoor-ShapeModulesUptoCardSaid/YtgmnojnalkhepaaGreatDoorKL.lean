/-
  A bundle of texts, one behind the other: ShNT5.
-/
import Derived.Test.YtgmnojnalkhepaaGreatDoorKI
import Derived.Test.YtgmnojnalkhepaaGreatDoorKJ
import Derived.Test.YtgmnojnalkhepaaGreatDoorKD
/-
  The document's ModuleText, joined.
-/
namespace Go.Proofs.YtgmnojnalkhepaaGreatDoor
open Go.RowKit
set_option linter.unusedVariables false
set_option linter.unusedSimpArgs false
set_option maxRecDepth 100000

set_option maxHeartbeats 4000000 in
theorem rModuleText_no (m : MT) (B : Nat) (w : World) (hm : MIn B w m) (hB : B ≤ w.heap.size) (hok : m.ok = false) :
    Calls Tryz.prog 9 #[.agg m.cells.toArray] w fun e w' => e = .returned (.string (bs [])) ∧ Below w.heap.size w w' := by
  have HOK := Lib.hid (fun (W : World) (hb : Below w.heap.size w W) => hok ▸ rModule_ok m B W (hm.below (hb.mono hB) (Nat.le_refl _)) (Nat.le_trans hB hb.size))
  obtain ⟨name, auto, ia, ni, icap, im, da, nd, dcap, df⟩ := m
  have HB0 := Lib.hid ((Below.refl w.heap.size w).alloc (Nat.le_refl _) (.cells #[.string name, .bool auto, .slice ia ni icap, .slice da nd dcap] 25))
  clear hm hok
  simp only [MT.cells] at HOK
  show Calls _ _ #[.agg #[.string name, .bool auto, .slice ia ni icap, .slice da nd dcap]] w _
  go_enter Tryz.func9, Tryz.ntmps9
  go_wp2_with fail
  refine (HOK.out _ HB0.out).mono ?_
  rintro e w1 ⟨rfl, hb⟩
  have HB1 := Lib.hid (HB0.out.trans (hb.mono HB0.out.size))
  clear hb
  go_wp2_with fail
  go_ret
  exact ⟨rfl, HB1.out⟩
/-- the document's ModuleText -/
theorem rModuleText_ok (m : MT) (B : Nat) (w : World) (hm : MIn B w m) (hB : B ≤ w.heap.size) (hw : m.wt ≤ 2000000) :
    Calls Tryz.prog 9 #[.agg m.cells.toArray] w fun e w' => e = .returned (.string (bs m.text)) ∧ Below w.heap.size w w' := by
  unfold MT.text
  by_cases hok : m.ok = true
  · rw [if_pos hok]
    have hw' := hw
    unfold MT.wt at hw'
    have hd : ∀ i, i < m.nd → (m.df i).t.ok = true := fun i hi => by
      have h := hok
      unfold MT.ok fewOk at h
      simp only [Bool.and_eq_true] at h
      have h2 := allN_iff.1 h.2.2.2 i hi
      unfold DF.ok at h2
      simp only [Bool.and_eq_true] at h2
      have h3 := h2.2
      unfold TT.okT at h3
      simp only [Bool.and_eq_true] at h3
      exact h3.2
    have hwt : ∀ i, i < m.nd → (m.df i).t.wt ≤ 2000000 := fun i hi => by
      have h3 : (m.df i).wt ≤ sumN (fun i => (m.df i).wt) m.nd := sumN_one (f := fun i => (m.df i).wt) hi
      have h4 : (m.df i).wt ≤ 2000000 := by omega
      unfold DF.wt at h4
      omega
    have RT : ∀ j, j < m.nd → ∀ W, Below w.heap.size w W → Calls Tryz.prog 25 #[.agg (m.df j).t.cells.toArray] W fun e w' => e = .returned (.string (bs (m.df j).t.txt)) ∧ Below W.heap.size W w' := fun j hj W hb =>
      rtypeText_ok (m.df j).t w.heap.size W ((hm.2.2.2 j hj).2.below hb hB) hb.size (hwt j hj) (hd j hj)
    obtain ⟨name, auto, ia, ni, icap, im, da, nd, dcap, df⟩ := m
    cases auto with
    | true =>
      by_cases h0 : 0 < ni
      · exact rModuleText_t1 name ia ni icap im da nd dcap df B w hm hB hw hok h0 RT
      · exact rModuleText_t3 name ia ni icap im da nd dcap df B w hm hB hw hok h0 RT
    | false =>
      by_cases h0 : 0 < ni
      · exact rModuleText_t2 name ia ni icap im da nd dcap df B w hm hB hw hok h0 RT
      · exact rModuleText_t4 name ia ni icap im da nd dcap df B w hm hB hw hok h0 RT
  · rw [if_neg hok]
    exact rModuleText_no m B w hm hB (by simpa using hok)
end Go.Proofs.YtgmnojnalkhepaaGreatDoor
