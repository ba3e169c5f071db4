/-
  Proved: the statement TokenOrder (tokens stand in order, apart, each within the text; a word's, a sign's letters are those that stand there), as a tied card: for every input; the listed variables of the library and of the package (tables, two errors) are as the program's text lays them; it speaks of the pruned copy of the project (its packages that the laws load).
-/
import Derived.Test.YthcodmcfkmochaaDoorRows
import Derived.Test.YthcodmcfkmochaaDoorCards
import Derived.Test.YthcodmcfkmochaaDoorTie
import Derived.Test.YthcodmcfkmochaaDoorTkR
import Derived.ProofKit
import Derived.Deep.QuietTactic
import Derived.BigQuiet
import Derived.Deep.DeepCutAuto
import Derived.WalkSmall
import Derived.OpenShut
import Derived.ShutString
import Derived.ChangeOld
import Derived.LaidMore
import Derived.SevenTiedAt
namespace Go.Proofs.YthcodmcfkmochaaDoor.tokenOrder
open Go.ChangeShapes Go.WideShapes Go.ChangeAt Go.RowKit
open Go.ChangeMaps (open_string shut_string)
set_option linter.unusedVariables false
set_option linter.unusedSimpArgs false
set_option maxRecDepth 100000

set_option maxHeartbeats 8000000 in
theorem walk (w : World) (hgl : Gl w) (a0 : Option Addr) (len0 cap0 : Nat) (z0 : List Int) (w0 : IsRow .u8 w a0 len0 cap0 z0) :
    Calls Tryd.prog 4 #[.slice a0 len0 cap0] w fun e w' => e = .returned (.bool true) ∧ Below w.heap.size w w' := by
  have HA := Lib.hid (awake_ok w hgl)
  obtain ⟨l, hsl, hlen, hcap, h8⟩ := sl_of_isRow w0
  by_cases h : 3000 < len0
  · have q1 : decide ((3000 : Int) < (len0 : Int)) = true := decide_eq_true (by omega)
    have q1n : decide (3000 < len0) = true := decide_eq_true h
    clear hgl h hsl w0 hlen hcap h8
    go_enter Tryd.func4, Tryd.ntmps4
    go_wp2_with fail
    refine HA.out.mono ?_
    rintro e w1 ⟨rfl, hb⟩
    have HB := Lib.hid hb
    clear hb
    go_wp2_with fail
    go_ret
    exact ⟨rfl, HB.out⟩
  · have q1 : decide ((3000 : Int) < (len0 : Int)) = false := decide_eq_false (by omega)
    have q1n : decide (3000 < len0) = false := decide_eq_false h
    have HSC := Lib.hid (fun (w : World) (v : Value) (hv : Sl w v l) => scan_ok w v l hv h8 (by omega))
    have hss : (bstr l).size = len0 := by rw [bstr_size, hlen]
    have hgood := scF_good (bstr l)
    rw [hss] at hgood
    have HGL := Lib.hid hgl
    have HSL := Lib.hid hsl
    have HLEN := Lib.hid hlen
    have HCAP := Lib.hid hcap
    have H8 := Lib.hid h8
    have HSS := Lib.hid hss
    have HN := Lib.hid (show len0 ≤ 3000 by omega)
    clear hgl h hsl hlen hcap h8 w0 hss
    generalize scF (bstr l) = R at *
    obtain ⟨L, p, er⟩ := R
    simp only at HSC hgood
    have HGD := Lib.hid hgood
    clear hgood
    go_enter Tryd.func4, Tryd.ntmps4
    go_wp2_with fail
    refine HA.out.mono ?_
    rintro e w1 ⟨rfl, hb⟩
    have HG1 := Lib.hid (HGL.out.below hb)
    have HS1 := Lib.hid (HSL.out.below hb)
    have HB1 := Lib.hid hb
    clear hb HGL HA HSL
    go_wp2_with fail
    refine (HSC.out _ _ HS1.out HG1.out).mono ?_
    rintro e w3 ⟨tv, rfl, ho, hb⟩
    have HS3 := Lib.hid (HS1.out.below hb)
    have HB3 := Lib.hid (HB1.out.trans (hb.mono HB1.out.size))
    have HO := Lib.hid ho
    clear hb ho HB1 HS1 HG1 HSC q1 q1n
    rcases HGD.out with ⟨rfl, rfl, hp⟩ | ⟨rfl, rfl, hg⟩
    · obtain ⟨a1, c1, rfl⟩ : ∃ a cap, tv = .slice a 0 cap := by
        rcases HO.out.shape with ⟨rfl, _⟩ | ⟨g, cap, rfl, _⟩
        · exact ⟨_, _, rfl⟩
        · exact ⟨_, _, rfl⟩
      have q2 : decide ((0 : Int) ≤ (p : Int)) = true := decide_eq_true (by omega)
      have q3 : decide ((p : Int) < (len0 : Int)) = true := decide_eq_true (by omega)
      have q3n : decide (p < len0) = true := decide_eq_true hp
      clear HGD HO hp
      go_wp2_with fail
      go_ret
      exact ⟨rfl, HB3.out⟩
    · have HGO := Lib.hid hg
      rcases HO.out.shape with ⟨rfl, hL⟩ | ⟨g, c1, rfl, hgb, hcp, hc⟩
      · subst hL
        clear HO HGO hg HGD
        go_wp2_with fail
        go_loopw [7, 8, 9] (fun lv iv _ wr => lv = .int .i64 0 ∧ iv = .int .i64 0 ∧ wr = w3) (fun _ _ _ _ => 0)
        case atStart => exact ⟨rfl, rfl, rfl⟩
        case round =>
          obtain ⟨rfl, rfl, rfl⟩ := hrel
          go_wp2_with fail
          go_ret
          exact ⟨rfl, HB3.out⟩
      obtain ⟨m, hm⟩ : ∃ m, L.length = m := ⟨_, rfl⟩
      have HM := Lib.hid hm
      by_cases hm0 : m = 0
      · subst hm0
        rw [hm]
        clear HO HGO hg HGD hc hcp hgb HM hm
        go_wp2_with fail
        go_loopw [7, 8, 9] (fun lv iv _ wr => lv = .int .i64 0 ∧ iv = .int .i64 0 ∧ wr = w3) (fun _ _ _ _ => 0)
        case atStart => exact ⟨rfl, rfl, rfl⟩
        case round =>
          obtain ⟨rfl, rfl, rfl⟩ := hrel
          go_wp2_with fail
          go_ret
          exact ⟨rfl, HB3.out⟩
      have hp0 : 0 < p := by
        have ht : L[0]? = some (L[0]'(by omega)) := List.getElem?_eq_getElem (by omega)
        have h9 := (hg 0 _ ht).1.1
        have := HSS.out
        omega
      have hsl : ∃ g0 o0, a0 = some ⟨g0, o0, none⟩ ∧ ∀ i, i < p → w3.cell? ⟨g0, o0 + i, none⟩ = some (.int .u8 (l.getD i 0 : Nat)) := by
        rcases HS3.out with ⟨g0, o0, c9, e, hd⟩ | ⟨e, _⟩
        · injection e with e1 e2 e3
          exact ⟨g0, o0, e1, fun i hi => hd i (by rw [HLEN.out]; exact hi)⟩
        · have := HLEN.out
          rw [e] at this
          have h0 : (0 : Nat) = p := this
          omega
      obtain ⟨g0, o0, rfl, hd⟩ := hsl
      have HD := Lib.hid hd
      have HCE := Lib.hid hc
      have hgw : g < w3.heap.size := World.block_lt_of_cell? w3 ⟨g, 0, none⟩ ((hc 0 (by have := tcells_length L; omega)).trans (List.getElem?_eq_getElem (by have := tcells_length L; omega)))
      have HGW := Lib.hid hgw
      rw [hm]
      clear HGD HO hc hcp hgb hm hg hd HS3 hgw hm0 hp0
      go_wp2_with fail
      go_loopw [7, 8, 9] (fun lv iv _ wr => RelT w3 L lv iv wr) (fun _ iv _ _ => m - (intOf iv).toNat)
      case atStart => exact ⟨0, 0, Nat.zero_le _, rfl, rfl, ⟨by decide, by decide, fun t _ => Int.natCast_nonneg _⟩, Below.refl _ _⟩
      case round =>
        obtain ⟨la, i, hi, rfl, rfl, hla, hbel⟩ := hrel
        have HB := Lib.hid hbel
        have HLA := Lib.hid hla
        rw [HM.out] at hi
        clear hla hbel
        by_cases hlt : i < m
        · have q1 : decide ((i : Int) < (m : Int)) = true := decide_eq_true (by omega)
          have q1n : decide (i < m) = true := decide_eq_true hlt
          have hi2 : i < L.length := by rw [HM.out]; exact hlt
          obtain ⟨t, ht⟩ : ∃ t, L[i]? = some t := ⟨L[i], List.getElem?_eq_getElem hi2⟩
          obtain ⟨hok, hnx, hend⟩ := HGO.out i t ht
          have hcl := tcells_at ht
          have hcell : ∀ j v, (tcells L)[j]? = some v → wr.cell? ⟨g, j, none⟩ = some v := fun j v hj => by
            have hj2 : j < (tcells L).length := by
              rcases Nat.lt_or_ge j (tcells L).length with h | h
              · exact h
              · rw [List.getElem?_eq_none h] at hj; cases hj
            exact (World.cell?_of_block (w := w3) (a := ⟨g, j, none⟩) (HB.out.block g HGW.out)).trans ((HCE.out j hj2).trans hj)
          have c0 := hcell _ _ hcl.1
          have c1' := hcell _ _ hcl.2.1
          have c3 := hcell _ _ hcl.2.2
          have hla1 := HLA.out.2.2 t ht
          have hla0 := HLA.out.1
          have hsz := hok.size
          have hk := tkEnd_kind (cods (bstr l)) t.a
          have hkk := hok.kind
          have hbd := hok.bounds
          rw [← hkk] at hk
          rw [HSS.out] at hbd
          have hn3 := HN.out
          have HTX := Lib.hid hok.text
          have HEND := Lib.hid (show ∀ t', L[i + 1]? = some t' → t.a + max t.t.size 1 ≤ t'.a from fun t' h => by have := hnx t' h; omega)
          clear hcell hcl hok hnx hend ht hkk HLA
          obtain ⟨k, tx, tn, ta⟩ := t
          simp only at *
          have q2 : decide ((ta : Int) < la) = false := decide_eq_false (by omega)
          have q3 : decide ((p : Int) ≤ (ta : Int)) = false := decide_eq_false (by omega)
          have q4 : decide ((k : Int) < 1) = false := decide_eq_false (by omega)
          have q5 : decide ((4 : Int) < (k : Int)) = false := decide_eq_false (by omega)
          have hb9 := HB.out
          go_wp2_with fail
          have hk4 : k = 1 ∨ k = 3 ∨ k = 2 ∨ k = 4 := by omega
          rcases hk4 with rfl | rfl | rfl | rfl
          · obtain ⟨htx, htn⟩ := HTX.out (by omega)
            have hs1 : 1 ≤ tx.size := by omega
            have hta : ta + tx.size ≤ p := by omega
            have hcp := HCAP.out
            have htx2 : tx = sub (bstr l) ta (ta + tx.size) := by rw [show ta + tx.size = tEnd (bstr l) ⟨1, tx, tn, ta⟩ by omega]; exact htx
            have hcv : ∀ (n : Nat), (convert 24 9 (.slice (some ⟨g0, o0 + ta, none⟩) tx.size (cap0 - ta))).run Tryd.prog (wr.drewN n) = .ok (.string tx) (wr.drewN n) := fun n => by
              have h9 := conv_sub (wr.drewN n) g0 o0 p cap0 l HLEN.out (fun i hi => (World.cell?_of_block (w := w3) (a := ⟨g0, o0 + i, none⟩) ((below_drewN HB.out n).block g0 (World.block_lt_of_cell? w3 _ (HD.out i hi)))).trans (HD.out i hi)) H8.out ta tx.size hta hs1 hcp (cap0 - ta)
              rw [← htx2] at h9
              exact h9
            have e1 : decide ((tx.size : Int) < 1) = false := decide_eq_false (by omega)
            have e2 : decide ((p : Int) - (ta : Int) < (tx.size : Int)) = false := decide_eq_false (by omega)
            have e3 : (0 : Int) ≤ (ta : Int) := by omega
            have e4 : (ta : Int) ≤ (ta : Int) + (tx.size : Int) := by omega
            have e5 : (ta : Int) + (tx.size : Int) ≤ (cap0 : Int) := by omega
            have e6 : ¬ cap0 = ta := by omega
            have e7 : ¬ ((tx.size : Int) < 1) := by omega
            have e8 : (tx.toList == tx.toList) = true := str_eq tx
            clear htx htn htx2 HTX
            go_quiet (fail)
            go_wp2_with fail
            go_roundw
            case rel => exact ⟨(ta : Int) + tx.size, i + 1, by rw [HM.out]; exact hlt, by go_num, by go_num, ⟨by omega, by omega, fun t' h => by have := HEND.out t' h; omega⟩, below_drewN HB.out _⟩
            case measure => first | (simp [intOf]; done) | (simp [intOf]; omega)
          · obtain ⟨htx, htn⟩ := HTX.out (by omega)
            have hs1 : 1 ≤ tx.size := by omega
            have hta : ta + tx.size ≤ p := by omega
            have hcp := HCAP.out
            have htx2 : tx = sub (bstr l) ta (ta + tx.size) := by rw [show ta + tx.size = tEnd (bstr l) ⟨3, tx, tn, ta⟩ by omega]; exact htx
            have hcv : ∀ (n : Nat), (convert 24 9 (.slice (some ⟨g0, o0 + ta, none⟩) tx.size (cap0 - ta))).run Tryd.prog (wr.drewN n) = .ok (.string tx) (wr.drewN n) := fun n => by
              have h9 := conv_sub (wr.drewN n) g0 o0 p cap0 l HLEN.out (fun i hi => (World.cell?_of_block (w := w3) (a := ⟨g0, o0 + i, none⟩) ((below_drewN HB.out n).block g0 (World.block_lt_of_cell? w3 _ (HD.out i hi)))).trans (HD.out i hi)) H8.out ta tx.size hta hs1 hcp (cap0 - ta)
              rw [← htx2] at h9
              exact h9
            have e1 : decide ((tx.size : Int) < 1) = false := decide_eq_false (by omega)
            have e2 : decide ((p : Int) - (ta : Int) < (tx.size : Int)) = false := decide_eq_false (by omega)
            have e3 : (0 : Int) ≤ (ta : Int) := by omega
            have e4 : (ta : Int) ≤ (ta : Int) + (tx.size : Int) := by omega
            have e5 : (ta : Int) + (tx.size : Int) ≤ (cap0 : Int) := by omega
            have e6 : ¬ cap0 = ta := by omega
            have e7 : ¬ ((tx.size : Int) < 1) := by omega
            have e8 : (tx.toList == tx.toList) = true := str_eq tx
            clear htx htn htx2 HTX
            go_quiet (fail)
            go_wp2_with fail
            go_roundw
            case rel => exact ⟨(ta : Int) + tx.size, i + 1, by rw [HM.out]; exact hlt, by go_num, by go_num, ⟨by omega, by omega, fun t' h => by have := HEND.out t' h; omega⟩, below_drewN HB.out _⟩
            case measure => first | (simp [intOf]; done) | (simp [intOf]; omega)
          · go_quiet (fail)
            by_cases hs1 : (tx.size : Int) < 1
            · go_wp2_with fail
              go_roundw
              case rel => exact ⟨(ta : Int) + 1, i + 1, by rw [HM.out]; exact hlt, by go_num, by go_num, ⟨by omega, by omega, fun t' h => by have := HEND.out t' h; omega⟩, below_drewN HB.out _⟩
              case measure => first | (simp [intOf]; done) | (simp [intOf]; omega)
            · go_wp2_with fail
              go_roundw
              case rel => exact ⟨(ta : Int) + tx.size, i + 1, by rw [HM.out]; exact hlt, by go_num, by go_num, ⟨by omega, by omega, fun t' h => by have := HEND.out t' h; omega⟩, below_drewN HB.out _⟩
              case measure => first | (simp [intOf]; done) | (simp [intOf]; omega)
          · go_quiet (fail)
            by_cases hs1 : (tx.size : Int) < 1
            · go_wp2_with fail
              go_roundw
              case rel => exact ⟨(ta : Int) + 1, i + 1, by rw [HM.out]; exact hlt, by go_num, by go_num, ⟨by omega, by omega, fun t' h => by have := HEND.out t' h; omega⟩, below_drewN HB.out _⟩
              case measure => first | (simp [intOf]; done) | (simp [intOf]; omega)
            · go_wp2_with fail
              go_roundw
              case rel => exact ⟨(ta : Int) + tx.size, i + 1, by rw [HM.out]; exact hlt, by go_num, by go_num, ⟨by omega, by omega, fun t' h => by have := HEND.out t' h; omega⟩, below_drewN HB.out _⟩
              case measure => first | (simp [intOf]; done) | (simp [intOf]; omega)
        · have q1 : decide ((i : Int) < (m : Int)) = false := decide_eq_false (by omega)
          have q1n : decide (i < m) = false := decide_eq_false hlt
          go_wp2_with fail
          go_ret
          exact ⟨rfl, HB3.out.trans (HB.out.mono HB3.out.size)⟩

set_option maxRecDepth 100000 in
theorem lifted (os : Os) (started : os.Started) (H : Type) (enc : TypeId × Value → H) :
    ReturnsInHanded {} Tryd.checked os 4 .any (fun w args => (Rows.tokenOrderSpec.pre enc Tryd.prog Tryd.f4 [] false w args ∧ laidMetH Tryd.prog Rows.tokenOrderRow.laid w) ∧ sizedMet enc Tryd.prog Tryd.f4 (OpenSpec.ofChange Rows.tokenOrderSpec) false w args) (Rows.tokenOrderSpec.post enc Tryd.prog Tryd.f4 false true false false) := by
  refine handed_laid (C := Tryd.checked) (X := fun w _ => laidMetH Tryd.prog Rows.tokenOrderRow.laid w) (fun _ _ _ hh h => h.of_heap hh) own started (by kernel_rfl) Tryd.func4
    (ChangeSpec.witness_shaped (enc := enc) (C := Tryd.checked) (os := os) (X := fun w _ => laidMetH Tryd.prog Rows.tokenOrderRow.laid w) false (World.laidAll Tryd.prog os laidL) #[.slice none 0 0] 8 (World.laidAll_os _ _ _)
      (World.shaped_of_ZipB (by kernel_rfl) (by kernel_rfl)) (by kernel_rfl) (by kernel_rfl) (by kernel_rfl) (laid_world os _)) ?_
  intro W base args ds gs before hval0 hW hL hsh
  have hval : ∀ (j : Nat) t v, Tryd.f4.params[j]? = some t → args[j]? = some v → Value.okWide Tryd.prog W .any base t v := hval0
  have hgl : Gl W := gl_of hL hsh
  have hW' := hW
  obtain ⟨p, q, hA0, hV, rfl, hfz, hnd⟩ := hW
  have hA : DataW.TrodAll enc Tryd.prog W 0 (fun _ => true) true Tryd.f4.params.toList args.toList ds p := hA0
  rw [Tryd.params4] at hA hval
  obtain ⟨v0, vs0, d0, ds0, p0, q0, hargs, rfl, rfl, h0, r0⟩ := trodAll_cons hA
  obtain ⟨rfl, rfl, rfl⟩ := trodAll_nil r0
  obtain rfl : args = #[v0] := by cases args; simp_all
  obtain ⟨rfl, rfl⟩ := trodVars_none hV
  obtain ⟨a0, len0, cap0, rfl⟩ := okWide_slice Tryd.underlying24 (hval 0 24 v0 rfl rfl)
  have k0 := h0
  have lt0 : ∀ x ∈ p0, x.block < W.heap.size := by obtain ⟨m, hm⟩ := k0; exact DataW.trod_lt m _ _ _ hm
  obtain ⟨z0, w0⟩ : ∃ zs, IsRow .u8 W a0 len0 cap0 zs := by
    obtain ⟨fuel, hf⟩ := h0
    rcases open_ints Tryd.underlying24 Tryd.underlying5 (by kernel_rfl) hf with ⟨hcs, _⟩ | ⟨x, l, c, zs, hcs, _, hl, hm, hz, _, hcell, hwz⟩
    · simp [Value.cells] at hcs
      obtain ⟨rfl, rfl, rfl⟩ := hcs
      exact ⟨[], .inl ⟨rfl, rfl, rfl, rfl⟩⟩
    · simp [Value.cells] at hcs
      obtain ⟨rfl, rfl, rfl⟩ := hcs
      exact ⟨zs, .inr ⟨_, rfl, hl, hm, by simpa using hz, hcell, hwz⟩⟩
  clear hA0 hval0
  refine (walk W hgl a0 len0 cap0 z0 w0).mono fun e W' ⟨he, bel⟩ => ?_
  subst he
  exact ⟨_, rfl, _, _, _, [], _, [], hW', trodAll_mk1 (shut_bool Tryd.underlying4 _), (trodAll_cons_mk (Below.trod laidOut (by kernel_rfl) (of_decide_eq_true (by kernel_rfl)) k0 bel lt0) trodAll_mk0), rfl, bel.frame _, fun h => by cases h⟩

theorem over : Rows.tokenOrderRow.holds Tryd.pinned (OpenSpec.ofChange Rows.tokenOrderSpec) :=
  OpenClaim.holds_of_wide 4 Tryd.f4 rfl rfl rfl rfl rfl rfl rfl ⟨rfl, rfl, rfl, rfl, rfl⟩ rfl rfl rfl rfl rfl (by kernel_rfl) Tryd.func4 (by kernel_rfl)
    (of_decide_eq_true (by kernel_rfl)) (by unfold Func.isWrapper; first | (rw [if_pos (by decide +kernel)]; kernel_rfl) | (rw [if_neg (by decide +kernel)]; exact ⟨rfl, rfl⟩))
    (fun os started H enc _ => lifted os started H enc)

theorem proved : Rows.TokenOrderCardSaid :=
  Claim7.holds_tied_plain_at .later [] [.data, .data, .data, .data, .sentinel, .sentinel, .data, .pinned] true (true, "551622fd71e3a7f9b30e05f43adcc85f11ae93f6d336fba504faff55d8d2c863") true
    over (fun _ h => by cases h) (by kernel_rfl) (fun _ h => by cases h) tokenOrder_row_tie rfl ⟨rfl, rfl⟩ (by kernel_rfl) rfl
    (fun f fn hf hfn => by
      obtain rfl : f = 4 := Option.some.inj ((show Tryd.prog.funcNamed Rows.tokenOrderRow.func = some 4 by kernel_rfl).symm.trans hf) |>.symm
      obtain rfl : fn = Tryd.f4 := (Option.some.inj (Tryd.func4.symm.trans hfn)).symm
      exact ⟨by kernel_rfl, fun j t ht => by
        rw [Tryd.params4] at ht
        have hm : t ∈ [24] := by simpa using Array.mem_of_getElem? ht
        have hall : ([24].all fun u => !Tryd.prog.wantsStandIn u) = true := by kernel_rfl
        exact (show Tryd.prog.wantsStandIn t = false by simpa using List.all_eq_true.1 hall t hm)⟩)
    (by kernel_rfl)
end Go.Proofs.YthcodmcfkmochaaDoor.tokenOrder
