/-
  Proved: the statement TokenWhole (a text is a word just where it scans to one token, a word, that is all of it), as a tied card: for every input; the listed variables of the library and of the package (tables, two errors) are as the program's text lays them; it speaks of the pruned copy of the project (its packages that the laws load).
-/
import Derived.Test.YthcodmcfkmochaaDoorRows
import Derived.Test.YthcodmcfkmochaaDoorCards
import Derived.Test.YthcodmcfkmochaaDoorTie
import Derived.Test.YthcodmcfkmochaaDoorTkP
import Derived.ProofKit
import Derived.OpenShut
import Derived.ShutString
import Derived.ChangeOld
import Derived.LaidMore
import Derived.SevenTiedAt
namespace Go.Proofs.YthcodmcfkmochaaDoor.tokenWhole
open Go.ChangeShapes Go.WideShapes Go.ChangeAt Go.RowKit
open Go.ChangeMaps (open_string shut_string)
set_option linter.unusedVariables false
set_option linter.unusedSimpArgs false
set_option maxRecDepth 100000

set_option maxHeartbeats 4000000 in
theorem walk (w : World) (hgl : Gl w) (s : ByteArray) (ws : s.size ≤ maxLen) :
    Calls Tryd.prog 6 #[.string s] w fun e w' => e = .returned (.bool true) ∧ Below w.heap.size w w' := by
  have HA := Lib.hid (awake_ok w hgl)
  by_cases h : 1000 < s.size
  · have q1 : decide ((1000 : Int) < (s.size : Int)) = true := decide_eq_true (by omega)
    have q1n : decide (1000 < s.size) = true := decide_eq_true h
    clear hgl h
    go_enter Tryd.func6, Tryd.ntmps6
    go_wp2_with fail
    refine HA.out.mono ?_
    rintro e w1 ⟨rfl, hb⟩
    have HB := Lib.hid hb
    clear hb
    go_wp2_with fail
    go_ret
    exact ⟨rfl, HB.out⟩
  · have q1 : decide ((1000 : Int) < (s.size : Int)) = false := decide_eq_false (by omega)
    have q1n : decide (1000 < s.size) = false := decide_eq_false h
    have HU := Lib.hid (fun (w : World) (h : Gl w) => upper_ok s w h (by omega))
    have HL := Lib.hid (fun (w : World) (h : Gl w) => lower_ok s w h (by omega))
    have HSC := Lib.hid (fun (w : World) (v : Value) => scan_str s (by omega) w v)
    have HGL := Lib.hid hgl
    clear hgl h
    go_enter Tryd.func6, Tryd.ntmps6
    go_wp2_with fail
    refine HA.out.mono ?_
    rintro e w1 ⟨rfl, hb⟩
    have HG1 := Lib.hid (HGL.out.below hb)
    have HB1 := Lib.hid hb
    clear hb HGL HA
    obtain ⟨v, w2, hcv, hs2, hb2⟩ := conv_str w1 s
    have HS2 := Lib.hid hs2
    have HG2 := Lib.hid (HG1.out.below hb2)
    have HB2 := Lib.hid (HB1.out.trans (hb2.mono HB1.out.size))
    clear hs2 hb2 HG1 HB1
    go_wp2_with fail
    refine (HSC.out _ _ HS2.out HG2.out).mono ?_
    rintro e w3 ⟨tv, rfl, ho, hb⟩
    have HG3 := Lib.hid (HG2.out.below hb)
    have HB3 := Lib.hid (HB2.out.trans (hb.mono HB2.out.size))
    clear hb HG2 HB2 HS2 HSC hcv q1 q1n
    cases hw : isWd s with
    | true =>
      rw [hw] at HU HL
      rw [scF_word hw] at ho ⊢
      rcases ho.shape with ⟨_, he⟩ | ⟨g, cap, rfl, hg, hcap, hc⟩
      · cases he
      have c0 : w3.cell? ⟨g, 0, none⟩ = some (.int .i64 1) := hc 0 (by simp [tcells])
      have c1 : w3.cell? ⟨g, 1, none⟩ = some (.string s) := hc 1 (by simp [tcells])
      have hl1 : [(⟨1, s, 0, 0⟩ : Tk)].length = 1 := rfl
      rw [hl1] at hcap ⊢
      have h1 := isLt_iff.1 (isWd_in hw).1
      obtain ⟨x, hx⟩ : ∃ x, tAt (cods s) 0 = x := ⟨_, rfl⟩
      rw [hx] at HU HL h1
      clear ho hg hc hl1 hx hw
      rcases h1 with h1 | h1
      · have e1 : (true && isUp x) = true := by rw [isUp_iff.2 h1]; rfl
        have e2 : (true && isLo x) = false := by
          cases hl : isLo x with
          | false => rfl
          | true => have := isLo_iff.1 hl; omega
        rw [e1] at HU
        rw [e2] at HL
        clear e1 e2 h1
        go_wp2_with fail
        refine (HU.out _ HG3.out).mono ?_
        rintro e w4 ⟨rfl, hb⟩
        have HG4 := Lib.hid (HG3.out.below hb)
        have HB4 := Lib.hid (HB3.out.trans (hb.mono HB3.out.size))
        clear hb HG3 HB3
        have HG3 := HG4
        have HB3 := HB4
        clear HG4 HB4
        go_wp2_with fail
        refine (HU.out _ HG3.out).mono ?_
        rintro e w4 ⟨rfl, hb⟩
        have HG4 := Lib.hid (HG3.out.below hb)
        have HB4 := Lib.hid (HB3.out.trans (hb.mono HB3.out.size))
        clear hb HG3 HB3
        have HG3 := HG4
        have HB3 := HB4
        clear HG4 HB4
        go_wp2_with fail
        refine (HL.out _ HG3.out).mono ?_
        rintro e w4 ⟨rfl, hb⟩
        have HG4 := Lib.hid (HG3.out.below hb)
        have HB4 := Lib.hid (HB3.out.trans (hb.mono HB3.out.size))
        clear hb HG3 HB3
        have HG3 := HG4
        have HB3 := HB4
        clear HG4 HB4
        go_wp2_with fail
        go_ret
        exact ⟨rfl, HB3.out⟩
      · have e2 : (true && isLo x) = true := by rw [isLo_iff.2 h1]; rfl
        have e1 : (true && isUp x) = false := by
          cases hl : isUp x with
          | false => rfl
          | true => have := isUp_iff.1 hl; omega
        rw [e1] at HU
        rw [e2] at HL
        clear e1 e2 h1
        go_wp2_with fail
        refine (HU.out _ HG3.out).mono ?_
        rintro e w4 ⟨rfl, hb⟩
        have HG4 := Lib.hid (HG3.out.below hb)
        have HB4 := Lib.hid (HB3.out.trans (hb.mono HB3.out.size))
        clear hb HG3 HB3
        have HG3 := HG4
        have HB3 := HB4
        clear HG4 HB4
        go_wp2_with fail
        refine (HL.out _ HG3.out).mono ?_
        rintro e w4 ⟨rfl, hb⟩
        have HG4 := Lib.hid (HG3.out.below hb)
        have HB4 := Lib.hid (HB3.out.trans (hb.mono HB3.out.size))
        clear hb HG3 HB3
        have HG3 := HG4
        have HB3 := HB4
        clear HG4 HB4
        go_wp2_with fail
        refine (HU.out _ HG3.out).mono ?_
        rintro e w4 ⟨rfl, hb⟩
        have HG4 := Lib.hid (HG3.out.below hb)
        have HB4 := Lib.hid (HB3.out.trans (hb.mono HB3.out.size))
        clear hb HG3 HB3
        have HG3 := HG4
        have HB3 := HB4
        clear HG4 HB4
        go_wp2_with fail
        go_ret
        exact ⟨rfl, HB3.out⟩
    | false =>
      rw [hw] at HU HL
      rw [Bool.false_and] at HU HL
      have hno := fun t => scF_only (s := s) (t := t)
      rw [hw] at hno
      obtain ⟨R, hR⟩ : ∃ R, scF s = R := ⟨_, rfl⟩
      have hgood := scF_good s
      rw [hR] at ho hno hgood ⊢
      obtain ⟨L, p, e⟩ := R
      simp only at ho hno hgood ⊢
      have h60 : e = 6 ∨ e = 0 := hgood.imp (fun h => h.1) (fun h => h.1)
      clear hgood hR hw
      rcases h60 with rfl | rfl
      · clear hno ho
        go_wp2_with fail
        refine (HU.out _ HG3.out).mono ?_
        rintro e w4 ⟨rfl, hb⟩
        have HG4 := Lib.hid (HG3.out.below hb)
        have HB4 := Lib.hid (HB3.out.trans (hb.mono HB3.out.size))
        clear hb HG3 HB3
        have HG3 := HG4
        have HB3 := HB4
        clear HG4 HB4
        go_wp2_with fail
        refine (HL.out _ HG3.out).mono ?_
        rintro e w4 ⟨rfl, hb⟩
        have HG4 := Lib.hid (HG3.out.below hb)
        have HB4 := Lib.hid (HB3.out.trans (hb.mono HB3.out.size))
        clear hb HG3 HB3
        have HG3 := HG4
        have HB3 := HB4
        clear HG4 HB4
        go_wp2_with fail
        refine (HU.out _ HG3.out).mono ?_
        rintro e w4 ⟨rfl, hb⟩
        have HG4 := Lib.hid (HG3.out.below hb)
        have HB4 := Lib.hid (HB3.out.trans (hb.mono HB3.out.size))
        clear hb HG3 HB3
        have HG3 := HG4
        have HB3 := HB4
        clear HG4 HB4
        go_wp2_with fail
        go_ret
        exact ⟨rfl, HB3.out⟩
      · by_cases hn1 : L.length = 1
        · obtain ⟨t, rfl⟩ := List.length_eq_one_iff.1 hn1
          rcases ho.shape with ⟨_, he⟩ | ⟨g, cap, rfl, hg, hcap, hc⟩
          · cases he
          have c0 : w3.cell? ⟨g, 0, none⟩ = some (.int .i64 (t.k : Nat)) := hc 0 (by simp [tcells])
          have c1 : w3.cell? ⟨g, 1, none⟩ = some (.string t.t) := hc 1 (by simp [tcells])
          rw [hn1] at hcap ⊢
          have hno2 := hno t rfl rfl
          clear ho hg hc hn1 hno
          by_cases hk : t.k = 1
          · have q2 : (t.t.toList == s.toList) = false := str_ne (fun e => by cases hno2 hk e)
            rw [hk] at c0
            clear hno2 hk
            go_wp2_with fail
            refine (HU.out _ HG3.out).mono ?_
            rintro e w4 ⟨rfl, hb⟩
            have HG4 := Lib.hid (HG3.out.below hb)
            have HB4 := Lib.hid (HB3.out.trans (hb.mono HB3.out.size))
            clear hb HG3 HB3
            have HG3 := HG4
            have HB3 := HB4
            clear HG4 HB4
            go_wp2_with fail
            refine (HL.out _ HG3.out).mono ?_
            rintro e w4 ⟨rfl, hb⟩
            have HG4 := Lib.hid (HG3.out.below hb)
            have HB4 := Lib.hid (HB3.out.trans (hb.mono HB3.out.size))
            clear hb HG3 HB3
            have HG3 := HG4
            have HB3 := HB4
            clear HG4 HB4
            go_wp2_with fail
            refine (HU.out _ HG3.out).mono ?_
            rintro e w4 ⟨rfl, hb⟩
            have HG4 := Lib.hid (HG3.out.below hb)
            have HB4 := Lib.hid (HB3.out.trans (hb.mono HB3.out.size))
            clear hb HG3 HB3
            have HG3 := HG4
            have HB3 := HB4
            clear HG4 HB4
            go_wp2_with fail
            go_ret
            exact ⟨rfl, HB3.out⟩
          · have q2 : decide ((t.k : Int) = 1) = false := decide_eq_false (by omega)
            have q2b : ((t.k : Int) == 1) = false := by simp; omega
            clear hno2 hk
            go_wp2_with fail
            refine (HU.out _ HG3.out).mono ?_
            rintro e w4 ⟨rfl, hb⟩
            have HG4 := Lib.hid (HG3.out.below hb)
            have HB4 := Lib.hid (HB3.out.trans (hb.mono HB3.out.size))
            clear hb HG3 HB3
            have HG3 := HG4
            have HB3 := HB4
            clear HG4 HB4
            go_wp2_with fail
            refine (HL.out _ HG3.out).mono ?_
            rintro e w4 ⟨rfl, hb⟩
            have HG4 := Lib.hid (HG3.out.below hb)
            have HB4 := Lib.hid (HB3.out.trans (hb.mono HB3.out.size))
            clear hb HG3 HB3
            have HG3 := HG4
            have HB3 := HB4
            clear HG4 HB4
            go_wp2_with fail
            refine (HU.out _ HG3.out).mono ?_
            rintro e w4 ⟨rfl, hb⟩
            have HG4 := Lib.hid (HG3.out.below hb)
            have HB4 := Lib.hid (HB3.out.trans (hb.mono HB3.out.size))
            clear hb HG3 HB3
            have HG3 := HG4
            have HB3 := HB4
            clear HG4 HB4
            go_wp2_with fail
            go_ret
            exact ⟨rfl, HB3.out⟩
        · have hsh : ∃ a cap, tv = .slice a L.length cap := by
            rcases ho.shape with ⟨rfl, he⟩ | ⟨g, cap, rfl, _⟩
            · exact ⟨none, 0, by rw [he]; rfl⟩
            · exact ⟨_, _, rfl⟩
          obtain ⟨a, cap, rfl⟩ := hsh
          generalize L.length = n at *
          have q2 : decide ((n : Int) = 1) = false := decide_eq_false (by omega)
          have q2b : ((n : Int) == 1) = false := by simp; omega
          clear hno ho hn1
          go_wp2_with fail
          refine (HU.out _ HG3.out).mono ?_
          rintro e w4 ⟨rfl, hb⟩
          have HG4 := Lib.hid (HG3.out.below hb)
          have HB4 := Lib.hid (HB3.out.trans (hb.mono HB3.out.size))
          clear hb HG3 HB3
          have HG3 := HG4
          have HB3 := HB4
          clear HG4 HB4
          go_wp2_with fail
          refine (HL.out _ HG3.out).mono ?_
          rintro e w4 ⟨rfl, hb⟩
          have HG4 := Lib.hid (HG3.out.below hb)
          have HB4 := Lib.hid (HB3.out.trans (hb.mono HB3.out.size))
          clear hb HG3 HB3
          have HG3 := HG4
          have HB3 := HB4
          clear HG4 HB4
          go_wp2_with fail
          refine (HU.out _ HG3.out).mono ?_
          rintro e w4 ⟨rfl, hb⟩
          have HG4 := Lib.hid (HG3.out.below hb)
          have HB4 := Lib.hid (HB3.out.trans (hb.mono HB3.out.size))
          clear hb HG3 HB3
          have HG3 := HG4
          have HB3 := HB4
          clear HG4 HB4
          go_wp2_with fail
          go_ret
          exact ⟨rfl, HB3.out⟩

set_option maxRecDepth 100000 in
theorem lifted (os : Os) (started : os.Started) (H : Type) (enc : TypeId × Value → H) :
    ReturnsInHanded {} Tryd.checked os 6 .any (fun w args => (Rows.tokenWholeSpec.pre enc Tryd.prog Tryd.f6 [] false w args ∧ laidMetH Tryd.prog Rows.tokenWholeRow.laid w) ∧ sizedMet enc Tryd.prog Tryd.f6 (OpenSpec.ofChange Rows.tokenWholeSpec) false w args) (Rows.tokenWholeSpec.post enc Tryd.prog Tryd.f6 false true false false) := by
  refine handed_laid (C := Tryd.checked) (X := fun w _ => laidMetH Tryd.prog Rows.tokenWholeRow.laid w) (fun _ _ _ hh h => h.of_heap hh) own started (by kernel_rfl) Tryd.func6
    (ChangeSpec.witness_shaped (enc := enc) (C := Tryd.checked) (os := os) (X := fun w _ => laidMetH Tryd.prog Rows.tokenWholeRow.laid w) false (World.laidAll Tryd.prog os laidL) #[.string ByteArray.empty] 8 (World.laidAll_os _ _ _)
      (World.shaped_of_ZipB (by kernel_rfl) (by kernel_rfl)) (by kernel_rfl) (by kernel_rfl) (by kernel_rfl) (laid_world os _)) ?_
  intro W base args ds gs before hval0 hW hL hsh
  have hval : ∀ (j : Nat) t v, Tryd.f6.params[j]? = some t → args[j]? = some v → Value.okWide Tryd.prog W .any base t v := hval0
  have hgl : Gl W := gl_of hL hsh
  have hW' := hW
  obtain ⟨p, q, hA0, hV, rfl, hfz, hnd⟩ := hW
  have hA : DataW.TrodAll enc Tryd.prog W 0 (fun _ => true) true Tryd.f6.params.toList args.toList ds p := hA0
  rw [Tryd.params6] at hA hval
  obtain ⟨v0, vs0, d0, ds0, p0, q0, hargs, rfl, rfl, h0, r0⟩ := trodAll_cons hA
  obtain ⟨rfl, rfl, rfl⟩ := trodAll_nil r0
  obtain rfl : args = #[v0] := by cases args; simp_all
  obtain ⟨rfl, rfl⟩ := trodVars_none hV
  obtain ⟨a0, rfl, rfl, rfl, w0⟩ := open_string Tryd.underlying9 (hval 0 9 v0 rfl rfl) h0
  clear hA0 hval0
  refine (walk W hgl a0 w0).mono fun e W' ⟨he, bel⟩ => ?_
  subst he
  exact ⟨_, rfl, _, _, _, [], _, [], hW', trodAll_mk1 (shut_bool Tryd.underlying4 _), (trodAll_cons_mk (shut_string Tryd.underlying9 w0) trodAll_mk0), rfl, bel.frame _, fun h => by cases h⟩

theorem over : Rows.tokenWholeRow.holds Tryd.pinned (OpenSpec.ofChange Rows.tokenWholeSpec) :=
  OpenClaim.holds_of_wide 6 Tryd.f6 rfl rfl rfl rfl rfl rfl rfl ⟨rfl, rfl, rfl, rfl, rfl⟩ rfl rfl rfl rfl rfl (by kernel_rfl) Tryd.func6 (by kernel_rfl)
    (of_decide_eq_true (by kernel_rfl)) (by unfold Func.isWrapper; first | (rw [if_pos (by decide +kernel)]; kernel_rfl) | (rw [if_neg (by decide +kernel)]; exact ⟨rfl, rfl⟩))
    (fun os started H enc _ => lifted os started H enc)

theorem proved : Rows.TokenWholeCardSaid :=
  Claim7.holds_tied_plain_at .later [] [.data, .data, .data, .data, .sentinel, .sentinel, .data, .pinned] true (true, "551622fd71e3a7f9b30e05f43adcc85f11ae93f6d336fba504faff55d8d2c863") true
    over (fun _ h => by cases h) (by kernel_rfl) (fun _ h => by cases h) tokenWhole_row_tie rfl ⟨rfl, rfl⟩ (by kernel_rfl) rfl
    (fun f fn hf hfn => by
      obtain rfl : f = 6 := Option.some.inj ((show Tryd.prog.funcNamed Rows.tokenWholeRow.func = some 6 by kernel_rfl).symm.trans hf) |>.symm
      obtain rfl : fn = Tryd.f6 := (Option.some.inj (Tryd.func6.symm.trans hfn)).symm
      exact ⟨by kernel_rfl, fun j t ht => by
        rw [Tryd.params6] at ht
        have hm : t ∈ [9] := by simpa using Array.mem_of_getElem? ht
        have hall : ([9].all fun u => !Tryd.prog.wantsStandIn u) = true := by kernel_rfl
        exact (show Tryd.prog.wantsStandIn t = false by simpa using List.all_eq_true.1 hall t hm)⟩)
    (by kernel_rfl)
end Go.Proofs.YthcodmcfkmochaaDoor.tokenWhole
