/-
  Proved: the statement MemberExtends (a table whose first row may be extended has all values that it has without that), for every input; no further condition.
-/
import Derived.Test.YtmaghmdcagdkhaaGreatRows
import Derived.Test.YtmaghmdcagdkhaaGreatQX
import Derived.Test.YtmaghmdcagdkhaaGreatQY
import Derived.ProofKit
import Derived.OpenShut
import Derived.ShutString
import Derived.ChangeOld
namespace Go.Proofs.YtmaghmdcagdkhaaGreat.memberExtends
open Go.ChangeShapes Go.WideShapes Go.ChangeAt Go.RowKit
open Go.ChangeMaps (open_string shut_string)
set_option linter.unusedVariables false
set_option linter.unusedSimpArgs false
set_option maxRecDepth 100000

theorem own : ownKnob Tryz.prog.godebug = none := by kernel_rfl
theorem laidOut : laidOutB Tryz.prog = true := by kernel_rfl

set_option maxHeartbeats 64000000 in
theorem walk (w : World) (a0 : Option Addr) (len0 cap0 : Nat) (w0 : ∃ f, TBIn w.heap.size w ⟨a0, len0, cap0, f⟩) (x1 : VT) (hx1 : VIn w.heap.size w x1) :
    Calls Tryz.prog 7 #[.slice a0 len0 cap0, .agg x1.cells.toArray] w fun e w' => e = .returned (.bool true) ∧ Below w.heap.size w w' := by
  obtain ⟨f, hT⟩ := w0
  obtain ⟨d, hda, hdn, hdc, hD⟩ : ∃ d : TB, d.a = a0 ∧ d.n = len0 ∧ d.cap = cap0 ∧ TBIn w.heap.size w d := ⟨⟨a0, len0, cap0, f⟩, rfl, rfl, rfl, hT⟩
  subst hda hdn hdc
  clear hT f
  have HD := Lib.hid (fun (W : World) (hb : Below w.heap.size w W) => hD.below hb (Nat.le_refl _))
  have HV := Lib.hid (fun (W : World) (hb : Below w.heap.size w W) => hx1.below hb (Nat.le_refl _))
  have HSM := Lib.hid (fun (W : World) (hb : Below w.heap.size w W) => small_ok w.heap.size W d (HD.out W hb) hb.size)
  have hfw := fun (W : World) (hb : Below w.heap.size w W) => few15_ok w.heap.size W x1 (HV.out W hb) hb.size
  obtain ⟨k0, m0, s0, nm0, a1, n1, cap1, ch1, hv0⟩ := vin_mk hx1
  have hcl : x1.cells = [.int .i64 k0, .int .i64 m0, .string s0, .slice nm0.a nm0.n nm0.cap, .slice a1 n1 cap1] := by rw [hv0, list5]
  have HCL := Lib.hid hcl
  have HV0 := Lib.hid hv0
  have HX := Lib.hid (Bx.new w #[.int .i64 k0, .int .i64 m0, .string s0, .slice nm0.a nm0.n nm0.cap, .slice a1 n1 cap1] 26)
  have HB := Lib.hid ((Below.refl w.heap.size w).alloc (Nat.le_refl _) (.cells #[.int .i64 k0, .int .i64 m0, .string s0, .slice nm0.a nm0.n nm0.cap, .slice a1 n1 cap1] 26))
  rw [hcl] at hfw ⊢
  have HFW := Lib.hid hfw
  clear hcl hv0 hD hx1 hfw
  go_enter Tryz.func7, Tryz.ntmps7
  go_wp2_with fail
  generalize w.alloc (.cells #[.int .i64 k0, .int .i64 m0, .string s0, .slice nm0.a nm0.n nm0.cap, .slice a1 n1 cap1] 26) = W0 at *
  refine (awake15_ok _).mono ?_
  rintro e wA ⟨rfl, h2⟩
  have HXA := Lib.hid (HX.out.below h2 HX.out.lt)
  have HBA := Lib.hid (HB.out.trans (h2.mono HB.out.size))
  clear h2
  go_wp2_with fail
  refine (HSM.out _ HBA.out).mono ?_
  rintro e wB ⟨r, rfl, hr, h2⟩
  have HXB := Lib.hid (HXA.out.below h2 HXA.out.lt)
  have HBB := Lib.hid (HBA.out.trans (h2.mono HBA.out.size))
  have HR := Lib.hid hr
  clear h2 hr
  cases r with
  | false =>
    go_wp2_with fail
    go_ret
    exact ⟨rfl, HBB.out⟩
  | true =>
  have HSZ := Lib.hid (HR.out rfl)
  have HSET := Lib.hid (show ∀ i, i < d.n → (d.f i).set.n ≤ 1000 from fun i hi => by have := (HSZ.out.2 i hi).1; omega)
  have HF := Lib.hid (HFW.out _ HBB.out)
  clear HR HFW
  generalize (fewV x1 && decide (x1.tx.size ≤ 10000)) = z at *
  obtain ⟨c0, c1, c2, c3, c4⟩ := fiveX HXB.out
  cases z with
  | false =>
    go_wp2_with fail
    refine HF.out.mono ?_
    rintro e wC ⟨rfl, h2⟩
    have HBC := Lib.hid (HBB.out.trans (h2.mono HBB.out.size))
    clear h2 c0 c1 c2 c3 c4
    go_wp2_with fail
    go_ret
    exact ⟨rfl, HBC.out⟩
  | true =>
  go_wp2_with fail
  refine HF.out.mono ?_
  rintro e wC ⟨rfl, h2⟩
  have HXC := Lib.hid (HXB.out.below h2 HXB.out.lt)
  have HBC := Lib.hid (HBB.out.trans (h2.mono HBB.out.size))
  clear h2 c0 c1 c2 c3 c4 HF HXA HXB HBA HBB HX HB HSM
  have hck := fun (W : World) (hb : Below w.heap.size w W) => check_ok w.heap.size W d x1 (HD.out W hb) (HV.out W hb) hb.size HSET.out
  rw [HCL.out] at hck
  have HCK := Lib.hid hck
  clear hck
  obtain ⟨c0, c1, c2, c3, c4⟩ := fiveX HXC.out
  by_cases hc0 : chk d x1 = 0
  case neg =>
    generalize chk d x1 = q at *
    have q1 : (q != 0) = true := bne_iff_ne.2 hc0
    have q2 : (q == 0) = false := beq_eq_false_iff_ne.2 hc0
    clear hc0
    go_wp2_with fail
    refine (HCK.out _ HBC.out).mono ?_
    rintro e wD ⟨rfl, h2⟩
    have HBD := Lib.hid (HBC.out.trans (h2.mono HBC.out.size))
    clear h2 c0 c1 c2 c3 c4
    go_wp2_with fail
    go_ret
    exact ⟨rfl, HBD.out⟩
  case pos =>
  have HC0 := Lib.hid hc0
  rw [hc0] at HCK
  clear hc0
  go_wp2_with fail
  refine (HCK.out _ HBC.out).mono ?_
  rintro e wD ⟨rfl, h2⟩
  have HXD := Lib.hid (HXC.out.below h2 HXC.out.lt)
  have HBD := Lib.hid (HBC.out.trans (h2.mono HBC.out.size))
  clear h2 c0 c1 c2 c3 c4
  have hn0 : 0 < d.n := (TB.right_n (TB.good_right (chk_zero.1 HC0.out).1)).1
  have hn60 : d.n ≤ 60 := HSZ.out.1
  obtain ⟨i0, hi0, hz0, hz1, hz2⟩ := info_parts info_Dz
  have HDD := Lib.hid (HD.out wD HBD.out)
  obtain ⟨gd, od, ha, hgd, hcd⟩ := HDD.out.1.2.2.2 hn0
  have hk0 := hcd 0 hn0 0 _ rfl
  rw [show od + 0 * 12 + 0 = od by omega] at hk0
  have HK0 := Lib.hid (show ∀ W, Below w.heap.size wD W → W.cell? ⟨gd, od, none⟩ = some (.int .i64 (d.f 0).kind) from fun W hb => (hb.cell (p := ⟨gd, od, none⟩) hgd).trans hk0)
  have HL := Lib.hid (flatC_len (f := fun i => (d.f i).cells) (k := d.n) (K := 12) fun i _ => (one_dcells15 (d.f i)).1)
  have HON := Lib.hid (flatC_one (f := fun i => (d.f i).cells) (k := d.n) fun i _ => (one_dcells15 (d.f i)).2)
  have HNW := Lib.hid (row_newsC (K := 12) (by omega) HDD.out.1 fun i _ => (one_dcells15 (d.f i)).1)
  have HGET := Lib.hid (show (flatC (fun i => (d.f i).cells) d.n)[1]? = some (.bool (d.f 0).ext) from flatC_get (f := fun i => (d.f i).cells) (i := 0) (j := 1) (fun i _ => (one_dcells15 (d.f i)).1) hn0 rfl)
  have HO0 := Lib.hid (World.ownsRow_lit (base := wD.heap.size) (e := 43) (size := 12) wD #[] 0 (Nat.le_refl _) (by unfold maxLen; omega) (by rfl))
  have HB0 := Lib.hid ((Below.refl wD.heap.size wD).alloc (Nat.le_refl _) (.cells #[] 43))
  have HBL := Lib.hid (HB0.out.mono HBD.out.size)
  have HEX := Lib.hid (fun (W : World) (g cap : Nat) (ho : W.ownsRow wD.heap.size 43 12 (.slice (some ⟨g, 0, none⟩) d.n cap) d.n (flatC (fun i => (d.f i).cells) d.n)) (hb : Below wD.heap.size wD W) => extT_in ho ((HDD.out.below (Below.refl _ _) HBD.out.size).below hb (Nat.le_refl _)) hn0)
  have HCKX := Lib.hid (fun (W : World) (g cap : Nat) (hx : TBIn W.heap.size W (extT d (some ⟨g, 0, none⟩) cap)) (hb : Below w.heap.size w W) => show Calls Tryz.prog 15 #[.slice (some ⟨g, 0, none⟩) d.n cap, .agg x1.cells.toArray] W fun e w' => e = .returned (.int .i64 (chk (extT d (some ⟨g, 0, none⟩) cap) x1)) ∧ Below W.heap.size W w' from check_ok W.heap.size W (extT d (some ⟨g, 0, none⟩) cap) x1 hx ((HV.out W hb).below (Below.refl _ _) hb.size) (Nat.le_refl _) (fun i hi => by
    by_cases h : i = 0
    · subst h; exact HSET.out 0 hi
    · rw [show (extT d (some ⟨g, 0, none⟩) cap).f i = d.f i from if_neg h]; exact HSET.out i hi))
  have HRTX := Lib.hid (fun (W : World) (g cap : Nat) (hx : TBIn W.heap.size W (extT d (some ⟨g, 0, none⟩) cap)) => show Calls Tryz.prog 17 #[.slice (some ⟨g, 0, none⟩) d.n cap] W fun e w' => e = .returned (.bool (extT d (some ⟨g, 0, none⟩) cap).good) ∧ Below W.heap.size W w' from mRight_ok W.heap.size W (extT d (some ⟨g, 0, none⟩) cap) hx (Nat.le_refl _) (fun i hi => by
    by_cases h : i = 0
    · subst h; exact HSET.out 0 hi
    · rw [show (extT d (some ⟨g, 0, none⟩) cap).f i = d.f i from if_neg h]; exact HSET.out i hi))
  have HBAD := Lib.hid (fun (g cap : Nat) (hg : (extT d (some ⟨g, 0, none⟩) cap).good = false) => extT_bad (some ⟨g, 0, none⟩) cap HC0.out hg)
  have HYES := Lib.hid (fun (g cap : Nat) (hg : (extT d (some ⟨g, 0, none⟩) cap).good = true) => extT_chk (some ⟨g, 0, none⟩) cap HC0.out hg)
  rw [HCL.out] at HCKX
  rw [ha] at HNW ⊢
  obtain ⟨NEWS, hnews⟩ : ∃ l, flatC (fun i => (d.f i).cells) d.n = l := ⟨_, rfl⟩
  rw [hnews] at HL HON HNW HGET HEX
  obtain ⟨n, hn⟩ : ∃ n, d.n = n := ⟨_, rfl⟩
  rw [hn] at HL HNW HEX HCKX HRTX hn0 hn60 ⊢
  clear ha hcd hk0 hnews hn hgd HDD
  go_upto_region 5 with (at_builtin; refine wpList_append_rowM rfl (.tmp 23) (.tmp 24) 22 rfl wD.heap.size 43 i0 zeroD 12 200 Tryz.underlying22 hi0 hz0 hz1 hz2 rfl (by decide) _ 0 [] rfl HO0.out (some ⟨gd, od, none⟩) n d.cap NEWS rfl HL.out (HNW.out.imp id fun ⟨ad, h1, h2⟩ => ⟨ad, h1, h2 _ HBL.out⟩) HON.out (by unfold maxLen; omega) (by omega) HB0.out.size ?_; intro v1 w1 ho hg; have HBG := Lib.hid (HB0.out.grown hg HB0.out.size (fun j hj => (HO0.out.lt j hj).1)); obtain ⟨g, cap, hv1, ho2, hAg, cur, hbx⟩ := own_open ho hn0; subst hv1; have HOW := Lib.hid ho2; have HAG := Lib.hid hAg; have HBX := Lib.hid hbx; clear ho hg ho2 hAg hbx)
  have y1 : w1.cell? ⟨g, 1, none⟩ = some (.bool (d.f 0).ext) := by
    have h := HOW.out.cells (g := g) rfl 1 _ HGET.out
    rwa [Addr.add_mid] at h
  have z1 : w1.frozen? ⟨g, 1, none⟩ = false := frozenM HBX.out 1
  have q0 : decide ((0 : Int) < (n : Int)) = true := decide_eq_true (by omega)
  have q0n : decide (0 < n) = true := decide_eq_true hn0
  have HTX := Lib.hid (show TBIn (w1.setCell ⟨g, 1, none⟩ (.bool true)).heap.size (w1.setCell ⟨g, 1, none⟩ (.bool true)) (extT d (some ⟨g, 0, none⟩) cap) from by
    have h := HEX.out w1 g cap HOW.out HBG.out
    have e : (w1.setCell ⟨g, 1, none⟩ (.bool true)).heap.size = w1.heap.size := by simp
    rw [e]
    exact h)
  have HBG2 := Lib.hid (below_fieldM (j := 1) (v := .bool true) HBG.out HAG.out)
  have HBY := Lib.hid (HBD.out.trans (HBG2.out.mono HBD.out.size))
  have HXY := Lib.hid (HXD.out.below HBG2.out HXD.out.lt)
  have HKY := Lib.hid (fun (W : World) (hb : Below w.heap.size (w1.setCell ⟨g, 1, none⟩ (.bool true)) W) => HK0.out W ((HBG2.out.mono HBD.out.size).trans hb))
  go_upto_region 6 with fail
  generalize w1.setCell ⟨g, 1, none⟩ (.bool true) = w2 at *
  clear y1 z1
  go_wp2_with fail
  refine (HRTX.out w2 g cap HTX.out).mono ?_
  rintro e w3 ⟨rfl, h2⟩
  have HB3 := Lib.hid (HBY.out.trans (h2.mono HBY.out.size))
  have HX3 := Lib.hid (HXY.out.below h2 HXY.out.lt)
  have HT3 := Lib.hid (show TBIn w3.heap.size w3 (extT d (some ⟨g, 0, none⟩) cap) from (HTX.out.below h2 (Nat.le_refl _)).below (Below.refl _ _) h2.size)
  have HK3 := Lib.hid (HKY.out w3 (h2.mono HBY.out.size))
  clear h2
  cases hgd : (extT d (some ⟨g, 0, none⟩) cap).good with
  | false =>
    have k1 := HK3.out
    have q0 : decide ((0 : Int) < (n : Int)) = true := decide_eq_true (by omega)
    rcases HBAD.out g cap hgd with hk | hk
    · rw [hk] at k1
      clear hgd hk
      go_wp2_with fail
      go_ret
      exact ⟨rfl, HB3.out⟩
    · rw [hk] at k1
      clear hgd hk
      go_wp2_with fail
      go_ret
      exact ⟨rfl, HB3.out⟩
  | true =>
    have hcx := HCKX.out w3 g cap HT3.out HB3.out
    rw [HYES.out g cap hgd] at hcx
    have HCX := Lib.hid hcx
    clear hcx hgd
    obtain ⟨c0, c1, c2, c3, c4⟩ := fiveX HX3.out
    go_wp2_with fail
    refine HCX.out.mono ?_
    rintro e w4 ⟨rfl, h2⟩
    have HB4 := Lib.hid (HB3.out.trans (h2.mono HB3.out.size))
    clear h2 c0 c1 c2 c3 c4
    go_wp2_with fail
    go_ret
    exact ⟨rfl, HB4.out⟩

set_option maxRecDepth 100000 in
theorem lifted (os : Os) (started : os.Started) (H : Type) (enc : TypeId × Value → H) :
    ReturnsInHanded {} Tryz.checked os 7 .any (Rows.memberExtendsSpec.pre6 enc Tryz.prog Tryz.f7 Rows.memberExtendsRow.domain false) (Rows.memberExtendsSpec.post enc Tryz.prog Tryz.f7 false true false false) := by
  refine handed_light (C := Tryz.checked) own started (by kernel_rfl) Tryz.func7
    (ChangeSpec.witness6 (enc := enc) (C := Tryz.checked) false ⟨#[], #[.slice none 0 0, .agg #[.int .i64 0, .int .i64 0, .string ByteArray.empty, .slice none 0 0, .slice none 0 0]], []⟩ 8 (by kernel_rfl) (by kernel_rfl) (by kernel_rfl) (by kernel_rfl)) ?_
  intro W base args ds gs before hval0 hW hsz0
  have hval : ∀ (j : Nat) t v, Tryz.f7.params[j]? = some t → args[j]? = some v → Value.okWide Tryz.prog W .any base t v := hval0
  have hW' := hW
  obtain ⟨p, q, hA0, hV, rfl, hfz, hnd⟩ := hW
  have hA : DataW.TrodAll enc Tryz.prog W 0 (fun _ => true) true Tryz.f7.params.toList args.toList ds p := hA0
  rw [Tryz.params7] at hA hval
  obtain ⟨v0, vs0, d0, ds0, p0, q0, hargs, rfl, rfl, h0, r0⟩ := trodAll_cons hA
  obtain ⟨v1, vs1, d1, ds1, p1, q1, rfl, rfl, rfl, h1, r1⟩ := trodAll_cons r0
  obtain ⟨rfl, rfl, rfl⟩ := trodAll_nil r1
  obtain rfl : args = #[v0, v1] := by cases args; simp_all
  obtain ⟨rfl, rfl⟩ := trodVars_none hV
  obtain ⟨a0, len0, cap0, rfl⟩ := okWide_slice Tryz.underlying22 (hval 0 22 v0 rfl rfl)
  have k0 := h0
  have lt0 : ∀ x ∈ p0, x.block < W.heap.size := by obtain ⟨m, hm⟩ := k0; exact DataW.trod_lt m _ _ _ hm
  have li0 : Light 22 d0 := light_each hsz0 0 _ _ rfl rfl
  have w0 := open_table h0 li0
  obtain ⟨cs1, rfl, _⟩ := okWide_struct Tryz.underlying26 (hval 1 26 v1 rfl rfl)
  have k1 := h1
  have lt1 : ∀ x ∈ p1, x.block < W.heap.size := by obtain ⟨m, hm⟩ := k1; exact DataW.trod_lt m _ _ _ hm
  have li1 : Light 26 d1 := light_each hsz0 1 _ _ rfl rfl
  obtain ⟨fuel1, hf1⟩ := h1
  obtain ⟨x1, hc1, hx1⟩ := open_val (W := W) fuel1 (cs := cs1.toList) hf1 li1
  obtain rfl : cs1 = x1.cells.toArray := by rw [← hc1]
  clear hA0 hval0
  refine (walk W a0 len0 cap0 w0 x1 hx1).mono fun e W' ⟨he, bel⟩ => ?_
  subst he
  exact ⟨_, rfl, _, _, _, [], _, [], hW', trodAll_mk1 (shut_bool Tryz.underlying4 _), (trodAll_cons_mk (Below.trod laidOut (by kernel_rfl) (of_decide_eq_true (by kernel_rfl)) k0 bel lt0) (trodAll_cons_mk (Below.trod laidOut (by kernel_rfl) (of_decide_eq_true (by kernel_rfl)) k1 bel lt1) trodAll_mk0)), rfl, bel.frame _, fun h => by cases h⟩

theorem over : Rows.memberExtendsRow.holds Tryz.pinned (OpenSpec.ofChange Rows.memberExtendsSpec) :=
  OpenClaim.holds_of_wide 7 Tryz.f7 rfl rfl rfl rfl rfl rfl rfl ⟨rfl, rfl, rfl, rfl, rfl⟩ rfl rfl rfl rfl rfl (by kernel_rfl) Tryz.func7 (by kernel_rfl)
    (of_decide_eq_true (by kernel_rfl)) (by unfold Func.isWrapper; first | (rw [if_pos (by decide +kernel)]; kernel_rfl) | (rw [if_neg (by decide +kernel)]; exact ⟨rfl, rfl⟩))
    (fun os started H enc _ => lifted os started H enc)

theorem proved : Rows.MemberExtendsSaid := over
end Go.Proofs.YtmaghmdcagdkhaaGreat.memberExtends
