/-
  Proved: the statement ShapeParts (a part that may not be) in its second form, as a tied card: for every input whose bulk (values and letters, each time they are reached) is at most 1048576; the listed variables of the library and of the package (tables, two errors) are as the program's text lays them; it speaks of the pruned copy of the project (its packages that the laws load).
-/
import Derived.Test.YtgibjhljcdhppaaGreatDoorRows
import Derived.Test.YtgibjhljcdhppaaGreatDoorCards
import Derived.Test.YtgibjhljcdhppaaGreatDoorTie
import Derived.Test.YtgibjhljcdhppaaGreatDoorJU
import Derived.Test.YtgibjhljcdhppaaGreatDoorJL
import Derived.ProofKit
import Derived.OpenShut
import Derived.ShutString
import Derived.ChangeOld
import Derived.LaidMore
import Derived.SevenTiedAt
import Derived.BigQuiet
import Derived.Deep.DeepHandedRow
namespace Go.Proofs.YtgibjhljcdhppaaGreatDoor.shapeParts
open Go.ChangeShapes Go.WideShapes Go.ChangeAt Go.RowKit Go.BigFrame
open Go.ChangeMaps (open_string shut_string)
set_option linter.unusedVariables false
set_option linter.unusedSimpArgs false
set_option maxRecDepth 100000

set_option maxHeartbeats 16000000 in
theorem walk (w : World) (hgs : Gs w) (p : PD) (t : TT) (hp : PDIn w.heap.size w p) (ht : TIn w.heap.size w t) (hkw : p.wt + t.wt ≤ 1048576) (nm : ByteArray) (wn : nm.size ≤ maxLen) (hnm : nm.size ≤ 1048576) :
    Calls Tryz.prog 9 #[.agg (pcells p t).toArray, .string nm] w fun e w' => e = .returned (.bool true) ∧ Below w.heap.size w w' := by
  have HONE := Lib.hid (one_tcells ht)
  have HPN := Lib.hid (fun (p : PD) => (one_pcells (p := p) ht).1)
  have HPO := Lib.hid (fun (p : PD) => (one_pcells (p := p) ht).2)
  have HGS := Lib.hid hgs
  have HT := Lib.hid ht
  have HP := Lib.hid hp
  have HKW := Lib.hid hkw
  have HNM := Lib.hid hnm
  obtain ⟨qn, qo, ⟨qa, qk, qc, qf⟩⟩ := p
  have HX0 := Lib.hid (Bx.new w (pcells ⟨qn, qo, ⟨qa, qk, qc, qf⟩⟩ t).toArray 55)
  have HB0 := Lib.hid ((Below.refl w.heap.size w).alloc (Nat.le_refl _) (.cells (pcells ⟨qn, qo, ⟨qa, qk, qc, qf⟩⟩ t).toArray 55))
  have HA := Lib.hid (awake_ok _ (hgs.below HB0.out))
  clear hgs ht hp hkw wn hnm
  go_enter Tryz.func9, Tryz.ntmps9
  go_wp2_with fail
  refine HA.out.mono ?_
  rintro e w1 ⟨rfl, hb⟩
  have HB1 := Lib.hid (HB0.out.trans (hb.mono HB0.out.size))
  have HX1 := Lib.hid (HX0.out.below hb HX0.out.lt)
  have HF := Lib.hid (Few_ok t w.heap.size 200 w1 (HT.out.below HB1.out (Nat.le_refl _)) HB1.out.size (by omega) (by omega))
  obtain ⟨fb, hfb⟩ : ∃ fb, decide (0 ≤ t.few 200) = fb := ⟨_, rfl⟩
  rw [hfb] at HF
  clear hb HA HX0 HB0 hfb
  go_wp2_with (refine wpList_load_mid rfl 33 (.tmp 13) rfl w.heap.size 1 rfl t.cells _ HX1.out.rangeP Tryz.underlying33 rfl (by rw [info_T, HONE.out.1]) ?_)
  refine HF.out.mono ?_
  rintro e w2 ⟨rfl, hb⟩
  have HB2 := Lib.hid (HB1.out.trans (hb.mono HB1.out.size))
  have HX2 := Lib.hid (HX1.out.below hb HX1.out.lt)
  clear hb HF HX1 HB1
  cases fb with
  | false =>
    go_wp2_with fail
    go_ret
    exact ⟨rfl, HB2.out⟩
  | true =>
    have HFV := Lib.hid (FewValues_ok ⟨qa, qk, qc, qf⟩ w.heap.size 10 w2 (HP.out.2.below HB2.out (Nat.le_refl _)) HB2.out.size (by omega) (by omega))
    obtain ⟨fv, hfv⟩ : ∃ fb, decide (0 ≤ DL.fewD ⟨qa, qk, qc, qf⟩ 10) = fb := ⟨_, rfl⟩
    rw [hfv] at HFV
    have c17 : w2.cell? ⟨w.heap.size, 17, none⟩ = some (.slice qa qk qc) := pcell17 HT.out HX2.out
    clear hfv
    go_wp2_with fail
    refine HFV.out.mono ?_
    rintro e w3 ⟨rfl, hb⟩
    have HB3 := Lib.hid (HB2.out.trans (hb.mono HB2.out.size))
    have HX3 := Lib.hid (HX2.out.below hb HX2.out.lt)
    clear hb HFV HX2 HB2 c17
    cases fv with
    | false =>
      go_wp2_with fail
      go_ret
      exact ⟨rfl, HB3.out⟩
    | true =>
      have c0 : w3.cell? ⟨w.heap.size, 0, none⟩ = some (.string qn) := HX3.out.cell 0 rfl
      by_cases h1 : 300 < nm.size
      · have q1 : decide ((300 : Int) < (nm.size : Int)) = true := decide_eq_true (by omega)
        have q1n : decide (300 < nm.size) = true := decide_eq_true h1
        go_wp2_with fail
        go_ret
        exact ⟨rfl, HB3.out⟩
      have q1 : decide ((300 : Int) < (nm.size : Int)) = false := decide_eq_false (by omega)
      have q1n : decide (300 < nm.size) = false := decide_eq_false h1
      by_cases h2 : 300 < qn.size
      · have q2 : decide ((300 : Int) < (qn.size : Int)) = true := decide_eq_true (by omega)
        have q2n : decide (300 < qn.size) = true := decide_eq_true h2
        go_wp2_with fail
        go_ret
        exact ⟨rfl, HB3.out⟩
      have q2 : decide ((300 : Int) < (qn.size : Int)) = false := decide_eq_false (by omega)
      have q2n : decide (300 < qn.size) = false := decide_eq_false h2
      have HQN := Lib.hid h2
      have HNN := Lib.hid h1
      have hl18 := HPN.out ⟨qn, qo, ⟨qa, qk, qc, qf⟩⟩
      have hfold := fold_pcells (p := ⟨qn, qo, ⟨qa, qk, qc, qf⟩⟩) HT.out
      clear h1 h2
      go_wp2_with (first | (refine wpList_load_mid rfl 55 (.tmp 2) rfl w.heap.size 0 rfl (pcells ⟨qn, qo, ⟨qa, qk, qc, qf⟩⟩ t) _ HX3.out.range Tryz.underlying55 rfl (by rw [info_P, HPN.out ⟨qn, qo, ⟨qa, qk, qc, qf⟩⟩]) ?_) | fail)
      have HBq := Lib.hid ((HB3.out.alloc HB3.out.size (.cells (pcells ⟨qn, qo, ⟨qa, qk, qc, qf⟩⟩ t).toArray 55)).alloc (Nat.le_trans HB3.out.size (by simp)) (.cells #[.int .i64 8, .string ⟨#[]⟩, .int .i64 0, .int .i64 0, .int .i64 0, .bool false, .bool false, .slice none 0 0, .bool false, .string ⟨#[]⟩, .slice none 0 0, .slice none 0 0, .slice (some ⟨w3.heap.size, 0, none⟩) 1 1, .slice none 0 0, .slice none 0 0] 33))
      have HXp := Lib.hid ((Bx.new w3 (pcells ⟨qn, qo, ⟨qa, qk, qc, qf⟩⟩ t).toArray 55).alloc (.cells #[.int .i64 8, .string ⟨#[]⟩, .int .i64 0, .int .i64 0, .int .i64 0, .bool false, .bool false, .slice none 0 0, .bool false, .string ⟨#[]⟩, .slice none 0 0, .slice none 0 0, .slice (some ⟨w3.heap.size, 0, none⟩) 1 1, .slice none 0 0, .slice none 0 0] 33))
      have HXs := Lib.hid (show Bx ((w3.alloc (.cells (pcells ⟨qn, qo, ⟨qa, qk, qc, qf⟩⟩ t).toArray 55)).alloc (.cells #[.int .i64 8, .string ⟨#[]⟩, .int .i64 0, .int .i64 0, .int .i64 0, .bool false, .bool false, .slice none 0 0, .bool false, .string ⟨#[]⟩, .slice none 0 0, .slice none 0 0, .slice (some ⟨w3.heap.size, 0, none⟩) 1 1, .slice none 0 0, .slice none 0 0] 33)) (w3.heap.size + 1) #[.int .i64 8, .string ⟨#[]⟩, .int .i64 0, .int .i64 0, .int .i64 0, .bool false, .bool false, .slice none 0 0, .bool false, .string ⟨#[]⟩, .slice none 0 0, .slice none 0 0, .slice (some ⟨w3.heap.size, 0, none⟩) 1 1, .slice none 0 0, .slice none 0 0] 33 by have h := Bx.new (w3.alloc (.cells (pcells ⟨qn, qo, ⟨qa, qk, qc, qf⟩⟩ t).toArray 55)) #[.int .i64 8, .string ⟨#[]⟩, .int .i64 0, .int .i64 0, .int .i64 0, .bool false, .bool false, .slice none 0 0, .bool false, .string ⟨#[]⟩, .slice none 0 0, .slice none 0 0, .slice (some ⟨w3.heap.size, 0, none⟩) 1 1, .slice none 0 0, .slice none 0 0] 33; rw [World.size_alloc] at h; exact h)
      have HXw := Lib.hid ((HX3.out.alloc (.cells (pcells ⟨qn, qo, ⟨qa, qk, qc, qf⟩⟩ t).toArray 55)).alloc (.cells #[.int .i64 8, .string ⟨#[]⟩, .int .i64 0, .int .i64 0, .int .i64 0, .bool false, .bool false, .slice none 0 0, .bool false, .string ⟨#[]⟩, .slice none 0 0, .slice none 0 0, .slice (some ⟨w3.heap.size, 0, none⟩) 1 1, .slice none 0 0, .slice none 0 0] 33))
      generalize ((w3.alloc (.cells (pcells ⟨qn, qo, ⟨qa, qk, qc, qf⟩⟩ t).toArray 55)).alloc (.cells #[.int .i64 8, .string ⟨#[]⟩, .int .i64 0, .int .i64 0, .int .i64 0, .bool false, .bool false, .slice none 0 0, .bool false, .string ⟨#[]⟩, .slice none 0 0, .slice none 0 0, .slice (some ⟨w3.heap.size, 0, none⟩) 1 1, .slice none 0 0, .slice none 0 0] 33)) = w4 at *
      have HSW := Lib.hid (show w3.heap.size < w4.heap.size from HXp.out.lt)
      have HIN := Lib.hid (fun (W : World) (hb : Below w4.heap.size w4 W) => sq_in (B := W.heap.size) (p := ⟨qn, qo, ⟨qa, qk, qc, qf⟩⟩) (t := t) (HXp.out.below hb HXp.out.lt) (Nat.lt_of_lt_of_le HSW.out hb.size) ((HP.out.below HBq.out (Nat.le_refl _)).below hb HBq.out.size |>.below (Below.refl _ _) hb.size) ((HT.out.grow HBq.out).grow hb))
      have HOK := Lib.hid (fun (h : (sqT w3.heap.size ⟨qn, qo, ⟨qa, qk, qc, qf⟩⟩ t).okT = true) => okT_text (sqT w3.heap.size ⟨qn, qo, ⟨qa, qk, qc, qf⟩⟩ t) (HIN.out w4 (Below.refl _ _)) (by rw [sq_wt]; have := HKW.out; omega) h)
      have HOT := Lib.hid (fun (h : t.okT = true) => okT_text t HT.out (by have := HKW.out; omega) h)
      have HTX := Lib.hid (show Calls Tryz.prog 21 #[.agg #[.int .i64 8, .string ⟨#[]⟩, .int .i64 0, .int .i64 0, .int .i64 0, .bool false, .bool false, .slice none 0 0, .bool false, .string ⟨#[]⟩, .slice none 0 0, .slice none 0 0, .slice (some ⟨w3.heap.size, 0, none⟩) 1 1, .slice none 0 0, .slice none 0 0]] w4 fun e w' => e = .returned (.string (bs (sqT w3.heap.size ⟨qn, qo, ⟨qa, qk, qc, qf⟩⟩ t).text)) ∧ Below w4.heap.size w4 w' from typeText_ok (sqT w3.heap.size ⟨qn, qo, ⟨qa, qk, qc, qf⟩⟩ t) w4 (HGS.out.below HBq.out) (HIN.out w4 (Below.refl _ _)) (fun h => ⟨(HOK.out h).1, by have := (HOK.out h).2.1; omega, (HOK.out h).2.2⟩))
      obtain ⟨SX, hsx⟩ : ∃ X, bs (sqT w3.heap.size ⟨qn, qo, ⟨qa, qk, qc, qf⟩⟩ t).text = X := ⟨_, rfl⟩
      rw [hsx] at HTX
      have HSX := Lib.hid hsx
      clear hsx hl18 hfold HX3 HB3 c0
      refine HTX.out.mono ?_
      rintro e w5 ⟨rfl, hb⟩
      have HB5 := Lib.hid (HBq.out.trans (hb.mono HBq.out.size))
      have HX5 := Lib.hid (HXw.out.below hb HXw.out.lt)
      have HXs5 := Lib.hid (HXs.out.below hb HXs.out.lt)
      have HB45 := Lib.hid hb
      have HTX2 := Lib.hid (typeText_ok t w5 (HGS.out.below HB5.out) (HT.out.grow HB5.out) (fun h => ⟨(HOT.out h).1, by have := (HOT.out h).2.1; omega, (HOT.out h).2.2⟩))
      obtain ⟨X, hx⟩ : ∃ X, bs t.text = X := ⟨_, rfl⟩
      rw [hx] at HTX2
      have HXX := Lib.hid hx
      clear hb hx HTX HXw HXs
      go_wp2_with (refine wpList_load_mid rfl 33 (.tmp 40) rfl w.heap.size 1 rfl t.cells _ HX5.out.rangeP Tryz.underlying33 rfl (by rw [info_T, HONE.out.1]) ?_)
      refine HTX2.out.mono ?_
      rintro e w6 ⟨rfl, hb⟩
      have HB6 := Lib.hid (HB5.out.trans (hb.mono HB5.out.size))
      have HX6 := Lib.hid (HX5.out.below hb HX5.out.lt)
      have HXs6 := Lib.hid (HXs5.out.below hb HXs5.out.lt)
      have HB46 := Lib.hid (HB45.out.trans (hb.mono HB45.out.size))
      have c0 : w6.cell? ⟨w.heap.size, 0, none⟩ = some (.string qn) := HX6.out.cell 0 rfl
      have hqn : qn.size ≤ 300 := by have := HQN.out; omega
      have hnn : nm.size ≤ 300 := by have := HNN.out; omega
      have hxs : X.size ≤ 200000000 := by
        rw [← HXX.out, bs_size]
        unfold TT.text
        split
        · rename_i h
          exact (HOT.out h).2.1
        · exact Nat.zero_le _
      have HHD := Lib.hid (show (sqT w3.heap.size ⟨qn, qo, ⟨qa, qk, qc, qf⟩⟩ t).okT = true → ∃ r : ByteArray, SX = (((⟨#[83, 69, 81, 85, 69, 78, 67, 69, 32, 123, 32]⟩ : ByteArray) ++ qn) ++ (⟨#[32]⟩ : ByteArray) ++ X) ++ r from fun h => by
        obtain ⟨r, hr⟩ := sq_txt w3.heap.size ⟨qn, qo, ⟨qa, qk, qc, qf⟩⟩ t
        refine ⟨bs r, ?_⟩
        rw [← HSX.out, ← HXX.out]
        unfold TT.text
        rw [if_pos h, if_pos (sq_okT h), hr, show (⟨#[83, 69, 81, 85, 69, 78, 67, 69, 32, 123, 32]⟩ : ByteArray) = bs sqH from rfl, show (⟨#[32]⟩ : ByteArray) = bs [32] from rfl]
        have e : qn = bs qn.data.toList := by unfold bs; simp
        rw [e, bs_append, bs_append, bs_append, bs_append]
        simp [bs])
      obtain ⟨h1, e1⟩ : ∃ h1, (⟨#[83, 69, 81, 85, 69, 78, 67, 69, 32, 123, 32]⟩ : ByteArray) ++ qn = h1 := ⟨_, rfl⟩
      have z1 : h1.size = 11 + qn.size := by rw [← e1, ByteArray.size_append]; rfl
      rw [e1] at HHD
      obtain ⟨h2, e2⟩ : ∃ h2, h1 ++ (⟨#[32]⟩ : ByteArray) = h2 := ⟨_, rfl⟩
      have z2 : h2.size = h1.size + 1 := by rw [← e2, ByteArray.size_append]; rfl
      rw [e2] at HHD
      obtain ⟨hd, e3⟩ : ∃ hd, h2 ++ X = hd := ⟨_, rfl⟩
      have z3 : hd.size = h2.size + X.size := by rw [← e3, ByteArray.size_append]
      rw [e3] at HHD
      have g1 : ¬ (9223372036854775807 : Int) < (11 : Int) + (qn.size : Int) := by omega
      have g1n : ¬ 9223372036854775807 < 11 + qn.size := by omega
      have g2 : ¬ 9223372036854775807 < h1.size + 1 := by omega
      have g3 : ¬ 9223372036854775807 < h2.size + X.size := by omega
      have HZ := Lib.hid (show hd.size ≤ 300000000 by omega)
      have HTY := Lib.hid (show Calls Tryz.prog 17 #[.agg #[.int .i64 8, .string ⟨#[]⟩, .int .i64 0, .int .i64 0, .int .i64 0, .bool false, .bool false, .slice none 0 0, .bool false, .string ⟨#[]⟩, .slice none 0 0, .slice none 0 0, .slice (some ⟨w3.heap.size, 0, none⟩) 1 1, .slice none 0 0, .slice none 0 0]] w6 fun e w' => e = .returned (.bool (sqT w3.heap.size ⟨qn, qo, ⟨qa, qk, qc, qf⟩⟩ t).okT) ∧ Below w6.heap.size w6 w' from Type_ok (sqT w3.heap.size ⟨qn, qo, ⟨qa, qk, qc, qf⟩⟩ t) w6.heap.size w6 (HGS.out.below HB6.out) (HIN.out w6 HB46.out) (Nat.le_refl _))
      obtain ⟨k, hk⟩ : ∃ k, (sqT w3.heap.size ⟨qn, qo, ⟨qa, qk, qc, qf⟩⟩ t).okT = k := ⟨_, rfl⟩
      rw [hk] at HTY HHD
      clear hb hk z1 z2 z3 HX5 HXs5 HB45 HTX2 HB5 hxs
      have cs0 := fun (j : Nat) (v : Value) (h : #[.int .i64 8, .string ⟨#[]⟩, .int .i64 0, .int .i64 0, .int .i64 0, .bool false, .bool false, .slice none 0 0, .bool false, .string ⟨#[]⟩, .slice none 0 0, .slice none 0 0, .slice (some ⟨w3.heap.size, 0, none⟩) 1 1, .slice none 0 0, .slice none 0 0][j]? = some v) => HXs6.out.cell j h
      go_wp2_with (first | (refine wpList_load_mid rfl 33 (.tmp 6) rfl (w3.heap.size + 1) 0 rfl #[.int .i64 8, .string ⟨#[]⟩, .int .i64 0, .int .i64 0, .int .i64 0, .bool false, .bool false, .slice none 0 0, .bool false, .string ⟨#[]⟩, .slice none 0 0, .slice none 0 0, .slice (some ⟨w3.heap.size, 0, none⟩) 1 1, .slice none 0 0, .slice none 0 0].toList _ HXs6.out.range Tryz.underlying33 rfl rfl ?_) | fail)
      refine HTY.out.mono ?_
      rintro e w7 ⟨rfl, hb⟩
      have HB7 := Lib.hid (HB6.out.trans (hb.mono HB6.out.size))
      have HX7 := Lib.hid (HX6.out.below hb HX6.out.lt)
      clear hb HTY HX6 HB6 HXs6 HB46 c0 cs0 HOK HOT HSX HXX HIN
      obtain ⟨an, ea⟩ : ∃ an, (⟨#[65]⟩ : ByteArray) ++ nm = an := ⟨_, rfl⟩
      have za : ¬ 9223372036854775807 < 1 + nm.size := by omega
      have HAN := Lib.hid ea
      have hza : an.size ≤ 140737488355328 := by rw [← ea, ByteArray.size_append]; show 1 + nm.size ≤ _; omega
      have hl18a := HPN.out ⟨an, qo, ⟨qa, qk, qc, qf⟩⟩
      have hfolda := fold_pcells (p := ⟨an, qo, ⟨qa, qk, qc, qf⟩⟩) HT.out
      cases k with
      | false =>
        go_wp2_with (first | (refine wpList_load_mid rfl 55 (.tmp 2) rfl w.heap.size 0 rfl (pcells ⟨qn, qo, ⟨qa, qk, qc, qf⟩⟩ t) _ HX7.out.range Tryz.underlying55 rfl (by rw [info_P, HPN.out ⟨qn, qo, ⟨qa, qk, qc, qf⟩⟩]) ?_) | (refine wpList_store_new rfl 55 (.tmp 10) (.tmp 66) rfl 18 _ (pcells ⟨qn, qo, ⟨qa, qk, qc, qf⟩⟩ t) (HPN.out _) rfl info_P (HPO.out _) rfl rfl ?_) | (refine wpList_store_cell rfl 9 (.tmp 69) (.tmp 68) rfl w7.heap.size 0 _ _ _ (.string an) (Bx.new w7 (pcells ⟨qn, qo, ⟨qa, qk, qc, qf⟩⟩ t).toArray 55) (by kernel_rfl) (by rw [List.size_toArray, HPN.out]; omega) rfl rfl rfl (pset0 qn an qo _ t) ?_; intro w8 hs8 hx8 hb8 ho8; have HX8 := Lib.hid hx8; have HX8w := Lib.hid (show Bx w8 w.heap.size (pcells ⟨qn, qo, ⟨qa, qk, qc, qf⟩⟩ t).toArray 55 from (ho8 w.heap.size (by have := HX7.out.lt; omega)).trans (HX7.out.alloc (.cells (pcells ⟨qn, qo, ⟨qa, qk, qc, qf⟩⟩ t).toArray 55))); have HB8 := Lib.hid ((HB7.out.alloc HB7.out.size (.cells (pcells ⟨qn, qo, ⟨qa, qk, qc, qf⟩⟩ t).toArray 55)).trans (hb8.mono HB7.out.size)); clear hs8 hx8 hb8 ho8) | (refine wpList_load_mid rfl 55 (.tmp 2) rfl w.heap.size 0 rfl (pcells ⟨qn, qo, ⟨qa, qk, qc, qf⟩⟩ t) _ HX8w.out.range Tryz.underlying55 rfl (by rw [info_P, HPN.out ⟨qn, qo, ⟨qa, qk, qc, qf⟩⟩]) ?_) | (refine wpList_store_new rfl 55 (.tmp 11) (.tmp 70) rfl 18 _ (pcells ⟨qn, qo, ⟨qa, qk, qc, qf⟩⟩ t) (HPN.out _) rfl info_P (HPO.out _) rfl rfl ?_) | (refine wpList_store_cell rfl 4 (.tmp 71) _ rfl w8.heap.size 16 _ _ _ (.bool true) (Bx.new w8 (pcells ⟨qn, qo, ⟨qa, qk, qc, qf⟩⟩ t).toArray 55) (by kernel_rfl) (by rw [List.size_toArray, HPN.out]; omega) rfl rfl rfl (pset16 qn qo true _ HT.out) ?_; intro w9 hs9 hx9 hb9 ho9; have HX9 := Lib.hid hx9; have HX9q := Lib.hid (show Bx w9 w7.heap.size (pcells ⟨an, qo, ⟨qa, qk, qc, qf⟩⟩ t).toArray 55 from (ho9 w7.heap.size (by have := HX8.out.lt; omega)).trans (HX8.out.alloc (.cells (pcells ⟨qn, qo, ⟨qa, qk, qc, qf⟩⟩ t).toArray 55))); have HB9 := Lib.hid ((HB8.out.alloc HB8.out.size (.cells (pcells ⟨qn, qo, ⟨qa, qk, qc, qf⟩⟩ t).toArray 55)).trans (hb9.mono HB8.out.size)); have hl18b := HPN.out ⟨qn, true, vFD w9.heap.size⟩; have hfoldb := fold_pcells (p := ⟨qn, true, vFD w9.heap.size⟩) HT.out; clear hs9 hx9 hb9 ho9) | (refine wpList_store_cell rfl 53 (.tmp 74) (.tmp 73) rfl w8.heap.size 17 _ _ _ (.slice (some ⟨w9.heap.size, 0, none⟩) 1 1) (HX9.out.alloc (.cells #[.int .i64 1, .int .i64 0, .string ⟨#[]⟩, .slice none 0 0, .slice none 0 0] 58)) (by kernel_rfl) (by rw [List.size_toArray, HPN.out]; omega) rfl rfl rfl (pset17 qn true _ (vFD w9.heap.size) HT.out) ?_; intro w10 hs10 hx10 hb10 ho10; have HX10 := Lib.hid hx10; have HX10q := Lib.hid (show Bx w10 w7.heap.size (pcells ⟨an, qo, ⟨qa, qk, qc, qf⟩⟩ t).toArray 55 from (ho10 w7.heap.size (by have := HX8.out.lt; omega)).trans (HX9q.out.alloc (.cells #[.int .i64 1, .int .i64 0, .string ⟨#[]⟩, .slice none 0 0, .slice none 0 0] 58))); have HX10v := Lib.hid (show Bx w10 w9.heap.size #[.int .i64 1, .int .i64 0, .string ⟨#[]⟩, .slice none 0 0, .slice none 0 0] 58 from (ho10 w9.heap.size (by have := HX9.out.lt; omega)).trans (Bx.new w9 _ _)); have HB10 := Lib.hid ((HB9.out.alloc HB9.out.size (.cells #[.int .i64 1, .int .i64 0, .string ⟨#[]⟩, .slice none 0 0, .slice none 0 0] 58)).trans (hb10.mono HB8.out.size)); clear hs10 hx10 hb10 ho10) | (refine wpList_load_midG (by rfl) 55 (.tmp 10) rfl w7.heap.size 0 rfl (pcells ⟨an, qo, ⟨qa, qk, qc, qf⟩⟩ t) _ HX10q.out.range Tryz.underlying55 rfl (by rw [info_P, HPN.out ⟨an, qo, ⟨qa, qk, qc, qf⟩⟩]) ?_) | fail)
        have HBa := Lib.hid (HB10.out.alloc HB10.out.size (.cells (pcells ⟨an, qo, ⟨qa, qk, qc, qf⟩⟩ t).toArray 55))
        have HXa := Lib.hid (HX10.out.alloc (.cells (pcells ⟨an, qo, ⟨qa, qk, qc, qf⟩⟩ t).toArray 55))
        have HXv := Lib.hid (HX10v.out.alloc (.cells (pcells ⟨an, qo, ⟨qa, qk, qc, qf⟩⟩ t).toArray 55))
        have HXn := Lib.hid (Bx.new w10 (pcells ⟨an, qo, ⟨qa, qk, qc, qf⟩⟩ t).toArray 55)
        have HTYa := Lib.hid (show Calls Tryz.prog 17 #[.agg #[.int .i64 8, .string ⟨#[]⟩, .int .i64 0, .int .i64 0, .int .i64 0, .bool false, .bool false, .slice none 0 0, .bool false, .string ⟨#[]⟩, .slice none 0 0, .slice none 0 0, .slice (some ⟨w10.heap.size, 0, none⟩) 1 1, .slice none 0 0, .slice none 0 0]] (w10.alloc (.cells (pcells ⟨an, qo, ⟨qa, qk, qc, qf⟩⟩ t).toArray 55)) fun e w' => e = .returned (.bool false) ∧ Below (w10.alloc (.cells (pcells ⟨an, qo, ⟨qa, qk, qc, qf⟩⟩ t).toArray 55)).heap.size (w10.alloc (.cells (pcells ⟨an, qo, ⟨qa, qk, qc, qf⟩⟩ t).toArray 55)) w' from by
          have h := Type_ok (sqT w10.heap.size ⟨an, qo, ⟨qa, qk, qc, qf⟩⟩ t) (w10.alloc (.cells (pcells ⟨an, qo, ⟨qa, qk, qc, qf⟩⟩ t).toArray 55)).heap.size (w10.alloc (.cells (pcells ⟨an, qo, ⟨qa, qk, qc, qf⟩⟩ t).toArray 55)) (HGS.out.below HBa.out) (sq_in HXn.out HXn.out.lt ⟨hza, ((HP.out.2.below HBa.out (Nat.le_refl _)).below (Below.refl _ _) HBa.out.size)⟩ (HT.out.grow HBa.out)) (Nat.le_refl _)
          rw [sq_bad (fun b => by rw [← HAN.out]; exact compOk_A nm qo ⟨qa, qk, qc, qf⟩ b)] at h
          exact h)
        generalize w10.alloc (.cells (pcells ⟨an, qo, ⟨qa, qk, qc, qf⟩⟩ t).toArray 55) = wa at *
        clear HX10 HX10q HX10v HB10 HXn hl18a hfolda
        refine HTYa.out.mono ?_
        rintro e w11 ⟨rfl, hb⟩
        have HB11 := Lib.hid (HBa.out.trans (hb.mono HBa.out.size))
        have HX11 := Lib.hid (HXa.out.below hb HXa.out.lt)
        have HXv11 := Lib.hid (HXv.out.below hb HXv.out.lt)
        clear hb HTYa HXa HXv HBa
        go_wp2_with (refine wpList_load_midG (by rfl) 55 (.tmp 11) rfl w8.heap.size 0 rfl (pcells ⟨qn, true, vFD w9.heap.size⟩ t) _ HX11.out.range Tryz.underlying55 rfl (by rw [info_P, HPN.out ⟨qn, true, vFD w9.heap.size⟩]) ?_)
        have HBb := Lib.hid (HB11.out.alloc HB11.out.size (.cells (pcells ⟨qn, true, vFD w9.heap.size⟩ t).toArray 55))
        have HXb := Lib.hid (HXv11.out.alloc (.cells (pcells ⟨qn, true, vFD w9.heap.size⟩ t).toArray 55))
        have HXn := Lib.hid (Bx.new w11 (pcells ⟨qn, true, vFD w9.heap.size⟩ t).toArray 55)
        have HTYb := Lib.hid (show Calls Tryz.prog 17 #[.agg #[.int .i64 8, .string ⟨#[]⟩, .int .i64 0, .int .i64 0, .int .i64 0, .bool false, .bool false, .slice none 0 0, .bool false, .string ⟨#[]⟩, .slice none 0 0, .slice none 0 0, .slice (some ⟨w11.heap.size, 0, none⟩) 1 1, .slice none 0 0, .slice none 0 0]] (w11.alloc (.cells (pcells ⟨qn, true, vFD w9.heap.size⟩ t).toArray 55)) fun e w' => e = .returned (.bool false) ∧ Below (w11.alloc (.cells (pcells ⟨qn, true, vFD w9.heap.size⟩ t).toArray 55)).heap.size (w11.alloc (.cells (pcells ⟨qn, true, vFD w9.heap.size⟩ t).toArray 55)) w' from by
          have h := Type_ok (sqT w11.heap.size ⟨qn, true, vFD w9.heap.size⟩ t) (w11.alloc (.cells (pcells ⟨qn, true, vFD w9.heap.size⟩ t).toArray 55)).heap.size (w11.alloc (.cells (pcells ⟨qn, true, vFD w9.heap.size⟩ t).toArray 55)) (HGS.out.below HBb.out) (sq_in HXn.out HXn.out.lt ⟨HP.out.1, vFD_in HXb.out HXb.out.lt⟩ (HT.out.grow HBb.out)) (Nat.le_refl _)
          rw [sq_bad (fun b => compOk_B qn w9.heap.size b)] at h
          exact h)
        generalize w11.alloc (.cells (pcells ⟨qn, true, vFD w9.heap.size⟩ t).toArray 55) = wb at *
        clear HX11 HXv11 HB11 HXn HXb hl18b hfoldb
        refine HTYb.out.mono ?_
        rintro e w12 ⟨rfl, hb⟩
        have HB12 := Lib.hid (HBb.out.trans (hb.mono HBb.out.size))
        clear hb HTYb HBb
        go_wp2_with fail
        go_ret
        exact ⟨rfl, HB12.out⟩

      | true =>
        obtain ⟨r, rfl⟩ := HHD.out rfl
        have hz := HZ.out
        have f1 : (hd ++ r).size = hd.size + r.size := ByteArray.size_append
        obtain ⟨S, hS⟩ : ∃ S, hd ++ r = S := ⟨_, rfl⟩
        have f2 : S.extract 0 hd.size = hd := by rw [← hS]; exact extract_left hd r
        rw [hS] at f1 ⊢
        clear hS
        have f3 : decide ((S.size : Int) < (hd.size : Int)) = false := decide_eq_false (by omega)
        have f3n : decide (S.size < hd.size) = false := decide_eq_false (by omega)
        have f4 : (hd.size : Int) ≤ (S.size : Int) := by omega
        have f4n : hd.size ≤ S.size := by omega
        have f5 : (hd.toList != hd.toList) = false := by simp
        have f6 : (hd.toList == hd.toList) = true := by simp
        clear f1
        go_wp2_with (first | (refine wpList_load_mid rfl 55 (.tmp 2) rfl w.heap.size 0 rfl (pcells ⟨qn, qo, ⟨qa, qk, qc, qf⟩⟩ t) _ HX7.out.range Tryz.underlying55 rfl (by rw [info_P, HPN.out ⟨qn, qo, ⟨qa, qk, qc, qf⟩⟩]) ?_) | (refine wpList_store_new rfl 55 (.tmp 10) (.tmp 66) rfl 18 _ (pcells ⟨qn, qo, ⟨qa, qk, qc, qf⟩⟩ t) (HPN.out _) rfl info_P (HPO.out _) rfl rfl ?_) | (refine wpList_store_cell rfl 9 (.tmp 69) (.tmp 68) rfl w7.heap.size 0 _ _ _ (.string an) (Bx.new w7 (pcells ⟨qn, qo, ⟨qa, qk, qc, qf⟩⟩ t).toArray 55) (by kernel_rfl) (by rw [List.size_toArray, HPN.out]; omega) rfl rfl rfl (pset0 qn an qo _ t) ?_; intro w8 hs8 hx8 hb8 ho8; have HX8 := Lib.hid hx8; have HX8w := Lib.hid (show Bx w8 w.heap.size (pcells ⟨qn, qo, ⟨qa, qk, qc, qf⟩⟩ t).toArray 55 from (ho8 w.heap.size (by have := HX7.out.lt; omega)).trans (HX7.out.alloc (.cells (pcells ⟨qn, qo, ⟨qa, qk, qc, qf⟩⟩ t).toArray 55))); have HB8 := Lib.hid ((HB7.out.alloc HB7.out.size (.cells (pcells ⟨qn, qo, ⟨qa, qk, qc, qf⟩⟩ t).toArray 55)).trans (hb8.mono HB7.out.size)); clear hs8 hx8 hb8 ho8) | (refine wpList_load_mid rfl 55 (.tmp 2) rfl w.heap.size 0 rfl (pcells ⟨qn, qo, ⟨qa, qk, qc, qf⟩⟩ t) _ HX8w.out.range Tryz.underlying55 rfl (by rw [info_P, HPN.out ⟨qn, qo, ⟨qa, qk, qc, qf⟩⟩]) ?_) | (refine wpList_store_new rfl 55 (.tmp 11) (.tmp 70) rfl 18 _ (pcells ⟨qn, qo, ⟨qa, qk, qc, qf⟩⟩ t) (HPN.out _) rfl info_P (HPO.out _) rfl rfl ?_) | (refine wpList_store_cell rfl 4 (.tmp 71) _ rfl w8.heap.size 16 _ _ _ (.bool true) (Bx.new w8 (pcells ⟨qn, qo, ⟨qa, qk, qc, qf⟩⟩ t).toArray 55) (by kernel_rfl) (by rw [List.size_toArray, HPN.out]; omega) rfl rfl rfl (pset16 qn qo true _ HT.out) ?_; intro w9 hs9 hx9 hb9 ho9; have HX9 := Lib.hid hx9; have HX9q := Lib.hid (show Bx w9 w7.heap.size (pcells ⟨an, qo, ⟨qa, qk, qc, qf⟩⟩ t).toArray 55 from (ho9 w7.heap.size (by have := HX8.out.lt; omega)).trans (HX8.out.alloc (.cells (pcells ⟨qn, qo, ⟨qa, qk, qc, qf⟩⟩ t).toArray 55))); have HB9 := Lib.hid ((HB8.out.alloc HB8.out.size (.cells (pcells ⟨qn, qo, ⟨qa, qk, qc, qf⟩⟩ t).toArray 55)).trans (hb9.mono HB8.out.size)); have hl18b := HPN.out ⟨qn, true, vFD w9.heap.size⟩; have hfoldb := fold_pcells (p := ⟨qn, true, vFD w9.heap.size⟩) HT.out; clear hs9 hx9 hb9 ho9) | (refine wpList_store_cell rfl 53 (.tmp 74) (.tmp 73) rfl w8.heap.size 17 _ _ _ (.slice (some ⟨w9.heap.size, 0, none⟩) 1 1) (HX9.out.alloc (.cells #[.int .i64 1, .int .i64 0, .string ⟨#[]⟩, .slice none 0 0, .slice none 0 0] 58)) (by kernel_rfl) (by rw [List.size_toArray, HPN.out]; omega) rfl rfl rfl (pset17 qn true _ (vFD w9.heap.size) HT.out) ?_; intro w10 hs10 hx10 hb10 ho10; have HX10 := Lib.hid hx10; have HX10q := Lib.hid (show Bx w10 w7.heap.size (pcells ⟨an, qo, ⟨qa, qk, qc, qf⟩⟩ t).toArray 55 from (ho10 w7.heap.size (by have := HX8.out.lt; omega)).trans (HX9q.out.alloc (.cells #[.int .i64 1, .int .i64 0, .string ⟨#[]⟩, .slice none 0 0, .slice none 0 0] 58))); have HX10v := Lib.hid (show Bx w10 w9.heap.size #[.int .i64 1, .int .i64 0, .string ⟨#[]⟩, .slice none 0 0, .slice none 0 0] 58 from (ho10 w9.heap.size (by have := HX9.out.lt; omega)).trans (Bx.new w9 _ _)); have HB10 := Lib.hid ((HB9.out.alloc HB9.out.size (.cells #[.int .i64 1, .int .i64 0, .string ⟨#[]⟩, .slice none 0 0, .slice none 0 0] 58)).trans (hb10.mono HB8.out.size)); clear hs10 hx10 hb10 ho10) | (refine wpList_load_midG (by rfl) 55 (.tmp 10) rfl w7.heap.size 0 rfl (pcells ⟨an, qo, ⟨qa, qk, qc, qf⟩⟩ t) _ HX10q.out.range Tryz.underlying55 rfl (by rw [info_P, HPN.out ⟨an, qo, ⟨qa, qk, qc, qf⟩⟩]) ?_) | fail)
        have HBa := Lib.hid (HB10.out.alloc HB10.out.size (.cells (pcells ⟨an, qo, ⟨qa, qk, qc, qf⟩⟩ t).toArray 55))
        have HXa := Lib.hid (HX10.out.alloc (.cells (pcells ⟨an, qo, ⟨qa, qk, qc, qf⟩⟩ t).toArray 55))
        have HXv := Lib.hid (HX10v.out.alloc (.cells (pcells ⟨an, qo, ⟨qa, qk, qc, qf⟩⟩ t).toArray 55))
        have HXn := Lib.hid (Bx.new w10 (pcells ⟨an, qo, ⟨qa, qk, qc, qf⟩⟩ t).toArray 55)
        have HTYa := Lib.hid (show Calls Tryz.prog 17 #[.agg #[.int .i64 8, .string ⟨#[]⟩, .int .i64 0, .int .i64 0, .int .i64 0, .bool false, .bool false, .slice none 0 0, .bool false, .string ⟨#[]⟩, .slice none 0 0, .slice none 0 0, .slice (some ⟨w10.heap.size, 0, none⟩) 1 1, .slice none 0 0, .slice none 0 0]] (w10.alloc (.cells (pcells ⟨an, qo, ⟨qa, qk, qc, qf⟩⟩ t).toArray 55)) fun e w' => e = .returned (.bool false) ∧ Below (w10.alloc (.cells (pcells ⟨an, qo, ⟨qa, qk, qc, qf⟩⟩ t).toArray 55)).heap.size (w10.alloc (.cells (pcells ⟨an, qo, ⟨qa, qk, qc, qf⟩⟩ t).toArray 55)) w' from by
          have h := Type_ok (sqT w10.heap.size ⟨an, qo, ⟨qa, qk, qc, qf⟩⟩ t) (w10.alloc (.cells (pcells ⟨an, qo, ⟨qa, qk, qc, qf⟩⟩ t).toArray 55)).heap.size (w10.alloc (.cells (pcells ⟨an, qo, ⟨qa, qk, qc, qf⟩⟩ t).toArray 55)) (HGS.out.below HBa.out) (sq_in HXn.out HXn.out.lt ⟨hza, ((HP.out.2.below HBa.out (Nat.le_refl _)).below (Below.refl _ _) HBa.out.size)⟩ (HT.out.grow HBa.out)) (Nat.le_refl _)
          rw [sq_bad (fun b => by rw [← HAN.out]; exact compOk_A nm qo ⟨qa, qk, qc, qf⟩ b)] at h
          exact h)
        generalize w10.alloc (.cells (pcells ⟨an, qo, ⟨qa, qk, qc, qf⟩⟩ t).toArray 55) = wa at *
        clear HX10 HX10q HX10v HB10 HXn hl18a hfolda
        refine HTYa.out.mono ?_
        rintro e w11 ⟨rfl, hb⟩
        have HB11 := Lib.hid (HBa.out.trans (hb.mono HBa.out.size))
        have HX11 := Lib.hid (HXa.out.below hb HXa.out.lt)
        have HXv11 := Lib.hid (HXv.out.below hb HXv.out.lt)
        clear hb HTYa HXa HXv HBa
        go_wp2_with (refine wpList_load_midG (by rfl) 55 (.tmp 11) rfl w8.heap.size 0 rfl (pcells ⟨qn, true, vFD w9.heap.size⟩ t) _ HX11.out.range Tryz.underlying55 rfl (by rw [info_P, HPN.out ⟨qn, true, vFD w9.heap.size⟩]) ?_)
        have HBb := Lib.hid (HB11.out.alloc HB11.out.size (.cells (pcells ⟨qn, true, vFD w9.heap.size⟩ t).toArray 55))
        have HXb := Lib.hid (HXv11.out.alloc (.cells (pcells ⟨qn, true, vFD w9.heap.size⟩ t).toArray 55))
        have HXn := Lib.hid (Bx.new w11 (pcells ⟨qn, true, vFD w9.heap.size⟩ t).toArray 55)
        have HTYb := Lib.hid (show Calls Tryz.prog 17 #[.agg #[.int .i64 8, .string ⟨#[]⟩, .int .i64 0, .int .i64 0, .int .i64 0, .bool false, .bool false, .slice none 0 0, .bool false, .string ⟨#[]⟩, .slice none 0 0, .slice none 0 0, .slice (some ⟨w11.heap.size, 0, none⟩) 1 1, .slice none 0 0, .slice none 0 0]] (w11.alloc (.cells (pcells ⟨qn, true, vFD w9.heap.size⟩ t).toArray 55)) fun e w' => e = .returned (.bool false) ∧ Below (w11.alloc (.cells (pcells ⟨qn, true, vFD w9.heap.size⟩ t).toArray 55)).heap.size (w11.alloc (.cells (pcells ⟨qn, true, vFD w9.heap.size⟩ t).toArray 55)) w' from by
          have h := Type_ok (sqT w11.heap.size ⟨qn, true, vFD w9.heap.size⟩ t) (w11.alloc (.cells (pcells ⟨qn, true, vFD w9.heap.size⟩ t).toArray 55)).heap.size (w11.alloc (.cells (pcells ⟨qn, true, vFD w9.heap.size⟩ t).toArray 55)) (HGS.out.below HBb.out) (sq_in HXn.out HXn.out.lt ⟨HP.out.1, vFD_in HXb.out HXb.out.lt⟩ (HT.out.grow HBb.out)) (Nat.le_refl _)
          rw [sq_bad (fun b => compOk_B qn w9.heap.size b)] at h
          exact h)
        generalize w11.alloc (.cells (pcells ⟨qn, true, vFD w9.heap.size⟩ t).toArray 55) = wb at *
        clear HX11 HXv11 HB11 HXn HXb hl18b hfoldb
        refine HTYb.out.mono ?_
        rintro e w12 ⟨rfl, hb⟩
        have HB12 := Lib.hid (HBb.out.trans (hb.mono HBb.out.size))
        clear hb HTYb HBb
        go_wp2_with fail
        go_ret
        exact ⟨rfl, HB12.out⟩

set_option maxRecDepth 100000 in
theorem lifted (os : Os) (started : os.Started) (H : Type) (enc : TypeId × Value → H) (F : Stop.Interp) :
    ReturnsInHanded {} Tryz.checked os 9 .any ((Rows.OpenSpec.upto Rows.shapePartsSpec).preRow enc Tryz.prog Tryz.f9 Rows.shapePartsUptoRow.domain false Rows.shapePartsUptoRow.laid) (((Rows.OpenSpec.upto Rows.shapePartsSpec).at F).post enc Tryz.prog Tryz.f9 false true false false) := by
  refine returnsInHanded_of_row (C := Tryz.checked) (s := Rows.OpenSpec.upto Rows.shapePartsSpec) own started (by kernel_rfl) Tryz.func9
    (witness_rowZ (enc := enc) (C := Tryz.checked) false (World.laidAll Tryz.prog os laidL) #[.agg #[.string ByteArray.empty, .int .i64 0, .string ByteArray.empty, .int .i64 0, .int .i64 0, .int .i64 0, .bool false, .bool false, .slice none 0 0, .bool false, .string ByteArray.empty, .slice none 0 0, .slice none 0 0, .slice none 0 0, .slice none 0 0, .slice none 0 0, .bool false, .slice none 0 0], .string ByteArray.empty] (World.laidAll_os _ _ _)
      (World.shaped_of_ZipB (by kernel_rfl) (by kernel_rfl)) (by kernel_rfl)
      (OpenSpec.preRow_of_cond 8 (x := ([.agg [.lit (.string []), .agg [.lit (.int .i64 0), .lit (.string []), .agg [.lit (.int .i64 0), .lit (.int .i64 0), .lit (.int .i64 0), .lit (.bool false), .lit (.bool false), .nil], .lit (.bool false), .lit (.string []), .nil, .nil, .nil, .nil, .nil], .lit (.bool false), .nil], .lit (.string [])], [], [])) (by kernel_rfl) (by kernel_rfl) (fun k hk => by cases hk; kernel_rfl) (by kernel_rfl) (laid_world os _))) ?_
  intro W base args ds gs before hval0 hW _ hcond hz hL hsh _
  have hsz0 : ∀ n ∈ _, n ≤ reachBytes := fun n hn => of_decide_eq_true (List.all_eq_true.1 hz n hn)
  have hk := hcond _ rfl
  have hval : ∀ (j : Nat) t v, Tryz.f9.params[j]? = some t → args[j]? = some v → Value.okWide Tryz.prog W .any base t v := hval0
  have hgs : Gs W := gs_of hL hsh
  have hW' := hW
  obtain ⟨p, q, hA0, hV, rfl, hfz, hnd⟩ := hW
  have hA : DataW.TrodAll enc Tryz.prog W 0 (fun _ => true) true Tryz.f9.params.toList args.toList ds p := hA0
  rw [Tryz.params9] at hA hval
  obtain ⟨v0, vs0, d0, ds0, p0, q0, hargs, rfl, rfl, h0, r0⟩ := trodAll_cons hA
  obtain ⟨v1, vs1, d1, ds1, p1, q1, rfl, rfl, rfl, h1, r1⟩ := trodAll_cons r0
  obtain ⟨rfl, rfl, rfl⟩ := trodAll_nil r1
  obtain rfl : args = #[v0, v1] := by cases args; simp_all
  obtain ⟨rfl, rfl⟩ := trodVars_none hV
  have hb := of_decide_eq_true hk
  simp only [List.append_nil, List.cons_append, List.nil_append, Rows.uptoBulkAll] at hb
  obtain ⟨cs0, rfl, _⟩ := okWide_struct Tryz.underlying55 (hval 0 55 v0 rfl rfl)
  have k0 := h0
  have lt0 : ∀ x ∈ p0, x.block < W.heap.size := by obtain ⟨m, hm⟩ := k0; exact DataW.trod_lt m _ _ _ hm
  have li0 : Light 55 d0 := light_each hsz0 0 _ _ rfl rfl
  obtain ⟨fuel0, hf0⟩ := h0
  obtain ⟨⟨x0, y0⟩, hc0, ⟨hx0, hy0⟩, hu0⟩ := uopen_part (W := W) (cs := cs0.toList) hf0 li0 (fun n _ _ _ => uopen_type n)
  obtain rfl : cs0 = (pcells x0 y0).toArray := by rw [← hc0]
  have kk0 : x0.wt + y0.wt ≤ 1048576 := by simp only at hu0; omega
  obtain ⟨a1, rfl, e1, rfl, w1⟩ := open_string Tryz.underlying9 (hval 1 9 v1 rfl rfl) h1
  have kk1 : a1.size ≤ 1048576 := by
    have h : Rows.uptoBulk d1 = a1.data.toList.length + 1 := by rw [e1]; simp only [Rows.uptoBulk]
    have h2 : a1.data.toList.length = a1.size := by exact Array.length_toList
    omega
  subst e1
  clear hA0 hval0 hb hk hcond hz
  refine (walk W hgs x0 y0 hx0 hy0 kk0 a1 w1 kk1).mono fun e W' ⟨he, bel⟩ => ?_
  subst he
  exact ⟨_, rfl, _, _, _, [], _, [], hW', trodAll_mk1 (shut_bool Tryz.underlying4 _), (trodAll_cons_mk (Below.trod laidOut (by kernel_rfl) (of_decide_eq_true (by kernel_rfl)) k0 bel lt0) (trodAll_cons_mk (shut_string Tryz.underlying9 w1) trodAll_mk0)), rfl, bel.frame _, fun h => by cases h⟩

theorem over : Rows.shapePartsUptoRow.holds Tryz.pinned (Rows.OpenSpec.upto Rows.shapePartsSpec) :=
  OpenClaim.holds_of_cond 9 Tryz.f9 rfl rfl rfl rfl rfl rfl rfl ⟨rfl, rfl, rfl, rfl, rfl⟩ rfl rfl rfl rfl rfl (by kernel_rfl) Tryz.func9 (by kernel_rfl)
    (of_decide_eq_true (by kernel_rfl)) (by unfold Func.isWrapper; first | (rw [if_pos (by decide +kernel)]; kernel_rfl) | (rw [if_neg (by decide +kernel)]; exact ⟨rfl, rfl⟩))
    (fun os started H enc _ F => by rw [OpenClaim.pre_eq_preRow]; exact lifted os started H enc F)

theorem proved : Rows.ShapePartsUptoCardSaid :=
  Claim7.holds_tied_plain_at .later [] _ _ _ _
    over (fun _ h => by cases h) (by kernel_rfl) (fun _ h => by cases h) shapePartsUpto_row_tie rfl ⟨rfl, rfl⟩ (by kernel_rfl) rfl
    (fun f fn hf hfn => by
      obtain rfl : f = 9 := Option.some.inj ((show Tryz.prog.funcNamed Rows.shapePartsUptoRow.func = some 9 by kernel_rfl).symm.trans hf) |>.symm
      obtain rfl : fn = Tryz.f9 := (Option.some.inj (Tryz.func9.symm.trans hfn)).symm
      exact ⟨by kernel_rfl, fun j t ht => by
        rw [Tryz.params9] at ht
        have hm : t ∈ [55, 9] := by simpa using Array.mem_of_getElem? ht
        have hall : ([55, 9].all fun u => !Tryz.prog.wantsStandIn u) = true := by kernel_rfl
        exact (show Tryz.prog.wantsStandIn t = false by simpa using List.all_eq_true.1 hall t hm)⟩)
    (by kernel_rfl)
end Go.Proofs.YtgibjhljcdhppaaGreatDoor.shapeParts
