/-
  Package strings: get, GetOctets.
-/
import Derived.Test.YtbpfggkpfaobhaaGreatStGet2
namespace Go.Proofs.YtbpfggkpfaobhaaGreat
open Go.RowKit Go.Shelf
set_option linter.unusedVariables false
set_option linter.unusedSimpArgs false
set_option maxRecDepth 100000

/-- the units behind the first length -/
def gU (al tx : Bool) (k : Nat) (U : Nat → Nat → Ro) (L : List Nat) (p : Nat) (lo hi : Int) : Ro := rdPart (algn al tx k (gl al L p lo hi).v lo hi) U L (gl al L p lo hi).v (gl al L p lo hi).p
/-- what reading tells, where one length alone is read -/
def rS (al tx : Bool) (k : Nat) (U : Nat → Nat → Ro) (L : List Nat) (p : Nat) (lo hi : Int) : Ro :=
  if lBad lo hi then ⟨1, [], p⟩
  else if fixd lo hi = true then rdPart (algn al tx k lo.toNat lo hi) U L lo.toNat p
  else if (gl al L p lo hi).e ≠ 0 then ⟨(gl al L p lo hi).e, [], (gl al L p lo hi).p⟩
  else rdFin lo hi (gU al tx k U L p lo hi)
theorem rS_bad {al tx : Bool} {k : Nat} {U : Nat → Nat → Ro} {L : List Nat} {p : Nat} {lo hi : Int} (h : lBad lo hi) : rS al tx k U L p lo hi = ⟨1, [], p⟩ := if_pos h
theorem rS_fix {al tx : Bool} {k : Nat} {U : Nat → Nat → Ro} {L : List Nat} {p : Nat} {lo hi : Int} (h : ¬ lBad lo hi) (hf : lo = hi ∧ hi ≤ 65535) : rS al tx k U L p lo hi = rdPart (algn al tx k lo.toNat lo hi) U L lo.toNat p := by
  unfold rS
  rw [if_neg h, if_pos (fixd_yes hf)]
theorem rS_err {al tx : Bool} {k : Nat} {U : Nat → Nat → Ro} {L : List Nat} {p : Nat} {lo hi : Int} (h : ¬ lBad lo hi) (hf : ¬ (lo = hi ∧ hi ≤ 65535)) (he : (gl al L p lo hi).e ≠ 0) : rS al tx k U L p lo hi = ⟨(gl al L p lo hi).e, [], (gl al L p lo hi).p⟩ := by
  unfold rS
  rw [if_neg h, if_neg (by rw [fixd_no hf]; simp), if_pos he]
theorem rS_var {al tx : Bool} {k : Nat} {U : Nat → Nat → Ro} {L : List Nat} {p : Nat} {lo hi : Int} (h : ¬ lBad lo hi) (hf : ¬ (lo = hi ∧ hi ≤ 65535)) (he : (gl al L p lo hi).e = 0) : rS al tx k U L p lo hi = rdFin lo hi (gU al tx k U L p lo hi) := by
  unfold rS
  rw [if_neg h, if_neg (by rw [fixd_no hf]; simp), if_neg (by rw [he]; simp)]
def RelSG (w : World) (r g : Nat) (s : Value) (L : List Nat) (p : Nat) (al : Bool) (lo hi : Int) (k : Nat) (tx : Bool) (R : Ro) (av lv mv : Value) (wr : World) : Prop :=
  Only r w wr ∧ LayAt wr g al lo hi k tx ∧ ((mv = .bool true ∧ av = .slice none 0 0 ∧ lv = .int .i64 65536 ∧ RdAt wr r s L p) ∨ (mv = .bool false ∧ Own w.heap.size wr av R.l ∧ RdAt wr r s L R.p))
theorem sl_shape' {w : World} {s : Value} {l : List Nat} (h : SlAt w s l) : ∃ a n cap, s = .slice a n cap ∧ l.length = n := by
  rcases h with ⟨g, o, cap, rfl, _⟩ | ⟨rfl, a, cap, rfl⟩
  · exact ⟨_, _, _, rfl, rfl⟩
  · exact ⟨_, _, _, rfl, rfl⟩
def boolM : Value → Nat | .bool true => 1 | _ => 0
theorem own_app {base : Nat} {w : World} {v : Value} {l : List Nat} (h : w.ownsRow base 5 1 v (0 + l.length) ([] ++ u8s l)) (hl : ∀ i, l.getD i 0 < 256) : Own base w v l := by
  rw [Nat.zero_add, List.nil_append] at h
  exact ⟨h, hl⟩
set_option maxHeartbeats 4000000 in
theorem sget_ok (w : World) (r : Nat) (s : Value) (L : List Nat) (p : Nat) (al : Bool) (lo hi : Int) (k : Nat) (tx : Bool) (fn : FuncId) (first cap : Array Value) (U : Nat → Nat → Ro) (hen : Enters Tryz.prog fn)
    (h : RdAt w r s L p) (hu : UnitsR fn first cap r s L U w) (hv : ¬ lBad lo hi) (hk : k ≤ 8) (hL : L.length ≤ 1000000) (b2 : -9223372036854775808 ≤ lo ∧ lo ≤ 9223372036854775807) (b3 : -9223372036854775808 ≤ hi ∧ hi ≤ 9223372036854775807)
    (hU : ∀ n p, (U n p).l.length ≤ n) (hm : (gl al L p lo hi).m = true → (gl al L p lo hi).e = 0 → (gU al tx k U L p lo hi).e ≠ 0) :
    Calls Tryz.prog 30 #[.pointer (some ⟨r, 0, none⟩), .agg #[.bool al, .int .i64 lo, .int .i64 hi, .int .i64 (k : Nat), .bool tx], .func (.func fn) first cap] w fun e w' =>
      ∃ v, e = .returned (.tuple #[v, .int .i64 (rS al tx k U L p lo hi).e]) ∧ Own w.heap.size w' v (rS al tx k U L p lo hi).l ∧ RdAt w' r s L (rS al tx k U L p lo hi).p ∧ Only r w w' := by
  obtain ⟨i0, hi0, hz0, hz1, hz2⟩ := info_parts info_u8
  have hrw := h.lt
  have h0 := (Below.refl w.heap.size w).alloc (Nat.le_refl _) (.cells #[.bool al, .int .i64 lo, .int .i64 hi, .int .i64 (k : Nat), .bool tx] 64)
  have HC := Lib.hid (LayAt.new w al lo hi k tx)
  have HR := Lib.hid (h.below h0)
  have HR00 := Lib.hid h
  have H0 := Lib.hid (Only.of_below (b := r) h0)
  have HU := Lib.hid hu
  have hlo : 0 ≤ lo := by unfold lBad at hv; omega
  clear h hu h0
  by_cases hf : lo = hi ∧ hi ≤ 65535
  · rw [rS_fix hv hf]
    obtain ⟨m, rfl⟩ : ∃ m : Nat, lo = m := ⟨lo.toNat, by omega⟩
    rw [Int.toNat_natCast]
    have HF := Lib.hid (fun w => sfixed_ok al m hi k tx w hv true (fixd_yes hf).symm)
    have HP := Lib.hid (fun (w1 : World) (h1 : Only r w w1) (h2 : RdAt w1 r s L p) => sgetPart_ok w1 r s L p al m hi k tx m fn first cap U hen h2 (HU.out.only h1) hv hk (by omega) hL)
    generalize rdPart (algn al tx k m m hi) U L m p = o at *
    clear hf hv hU hm HU
    go_enter Tryz.func30, Tryz.ntmps30
    go_wp2_with fail
    refine (HF.out _).mono ?_
    rintro e w1 ⟨rfl, hb1⟩
    have H1 := Lib.hid (H0.out.trans (Only.of_below hb1))
    have HR1 := Lib.hid (HR.out.below hb1)
    obtain ⟨d0, d1, d2, d3, d4⟩ := (HC.out.below hb1).cells
    clear hb1 H0 HR HC HF
    go_wp2_with fail
    refine (HP.out w1 H1.out HR1.out).mono ?_
    rintro e w2 ⟨v, rfl, h1, h2, h3⟩
    have H2 := Lib.hid (h1.base H1.out.size)
    have H3 := Lib.hid h2
    have H4 := Lib.hid (H1.out.trans h3)
    clear h1 h2 h3 H1 HR1 HP d0 d1 d2 d3 d4
    go_wp2_with fail
    go_ret2
    exact ⟨_, rfl, H2.out, H3.out, H4.out⟩
  have HF := Lib.hid (fun w => sfixed_ok al lo hi k tx w hv false (fixd_no hf).symm)
  have HG := Lib.hid (fun (w1 : World) (h : RdAt w1 r s L p) => sgetCount_ok w1 r s L p al lo hi k tx h hv hL b2 b3)
  have hv6 := gl_v al L p lo hi hlo
  by_cases he : (gl al L p lo hi).e = 0
  · rw [rS_var hv hf he]
    rw [he] at HG
    have hm := fun h => hm h he
    have HP := Lib.hid (fun (w1 : World) (q : Nat) (h1 : Only r w w1) (h2 : RdAt w1 r s L q) => sgetPart_ok w1 r s L q al lo hi k tx (gl al L p lo hi).v fn first cap U hen h2 (HU.out.only h1) hv hk (by omega) hL)
    have HPq := Lib.hid (fun (w1 : World) (h1 : Only r w w1) (h2 : RdAt w1 r s L (gl al L p lo hi).p) => HP.out w1 _ h1 h2)
    have hle : (gU al tx k U L p lo hi).l.length ≤ 65536 := by
      unfold gU rdPart
      split
      · split
        · exact Nat.le_trans (hU _ _) hv6
        · exact Nat.zero_le _
      · exact Nat.le_trans (hU _ _) hv6
    unfold gU at hm hle ⊢
    generalize rdPart (algn al tx k (gl al L p lo hi).v lo hi) U L (gl al L p lo hi).v (gl al L p lo hi).p = o at *
    generalize (gl al L p lo hi).v = cv at *
    generalize (gl al L p lo hi).p = cp at *
    obtain ⟨cm, hcm⟩ : ∃ cm, (gl al L p lo hi).m = cm := ⟨_, rfl⟩
    rw [hcm] at hm HG
    have HHM := Lib.hid hm
    clear hcm hf hU HU HP hm he
    have HV := Lib.hid hv
    clear hv
    go_enter Tryz.func30, Tryz.ntmps30
    go_wp2_with fail
    refine (HF.out _).mono ?_
    rintro e w1 ⟨rfl, hb1⟩
    have H1 := Lib.hid (H0.out.trans (Only.of_below hb1))
    have HR1 := Lib.hid (HR.out.below hb1)
    have HC1 := Lib.hid (HC.out.below hb1)
    clear hb1 H0 HR HC HF
    go_wp2_with fail
    go_loopw [8, 9, 10] (fun av lv mv wr => RelSG w r w.heap.size s L p al lo hi k tx o av lv mv wr ∧ (mv = .bool false → o.e = 0)) (fun _ _ mv _ => boolM mv)
    case atStart => exact ⟨⟨H1.out, HC1.out, .inl ⟨rfl, rfl, rfl, HR1.out⟩⟩, fun h => by cases h⟩
    case round =>
      clear H1 HR1 HC1
      obtain ⟨⟨hon, hla, ⟨rfl, rfl, rfl, hrd⟩ | ⟨rfl, hown, hrd⟩⟩, hoe⟩ := hrel
      · have H2 := Lib.hid hon
        have HR2 := Lib.hid hrd
        have HC2 := Lib.hid hla
        obtain ⟨d0, d1, d2, d3, d4⟩ := HC2.out.cells
        clear hon hrd hla hoe
        go_wp2_with fail
        refine (HG.out wr HR2.out).mono ?_
        rintro e w3 ⟨rfl, h1, h2⟩
        clear d0 d1 d2 d3 d4
        have HR3 := Lib.hid h1
        have H3 := Lib.hid (H2.out.trans h2)
        have HC3 := Lib.hid (HC2.out.only h2 (by omega))
        obtain ⟨d0, d1, d2, d3, d4⟩ := HC3.out.cells
        clear h1 h2 H2 HR2 HC2 HG
        have q1 : decide ((1048576 : Int) < (cv : Int)) = false := decide_eq_false (by omega)
        have q2 : decide ((1048576 : Int) < 0 + (cv : Int)) = false := decide_eq_false (by omega)
        by_cases hoe : o.e = 0
        · obtain rfl : cm = false := by
            cases cm with
            | false => rfl
            | true => exact absurd hoe (HHM.out rfl)
          have HPQ := HPq.out w3 H3.out HR3.out
          rw [hoe] at HPQ
          have HPR := Lib.hid HPQ
          clear HPQ HPq
          go_wp2_with fail
          refine HPR.out.mono ?_
          rintro e w4 ⟨v, rfl, h1, h2, h3⟩
          clear d0 d1 d2 d3 d4
          have HO4 := Lib.hid h1
          have HR4 := Lib.hid h2
          have H4 := Lib.hid (H3.out.trans h3)
          have HC4 := Lib.hid (HC3.out.only h3 (by omega))
          have hsz := H4.out.size
          clear h1 h2 h3 H3 HR3 HC3 HPR
          rcases HO4.out.shape with ⟨rfl, hnil⟩ | ⟨g, vc, rfl, hg, hd⟩
          · go_wp2_with fail
            go_roundw
            case rel => exact ⟨⟨H4.out, HC4.out, .inr ⟨rfl, by rw [hnil]; exact Own.nil _ _, HR4.out⟩⟩, fun _ => hoe⟩
            case measure => simp [boolM]
          · have HCL := Lib.hid (data_cells hd)
            have HB := Lib.hid hd.byte
            clear hd
            go_wp2_with (at_builtin; refine wpList_append_own _ rfl (.tmp 59) (.tmp 60) 22 rfl w.heap.size 5 i0 (.int .u8 0) 1 1 Tryz.underlying22 hi0 hz0 hz1 hz2 rfl (by decide) _ 0 [] rfl (World.ownsRow_nil _ _ _ _) ⟨g, 0, none⟩ o.l.length vc (u8s o.l) rfl (by simp [u8s]) HCL.out (u8s_one o.l) (by unfold maxLen; omega) (by omega) hsz ?_; intro v' w5 hown4 hgr4 _; have hbl4 := (Below.refl w4.heap.size w4).grown hgr4 (Nat.le_refl _) (fun k hk => by cases hk); have HOW := Lib.hid hown4; have HBL := Lib.hid hbl4; clear hown4 hgr4 hbl4)
            go_roundw
            case rel => exact ⟨⟨H4.out.trans (Only.of_below HBL.out), HC4.out.below HBL.out, .inr ⟨rfl, own_app HOW.out HB.out, HR4.out.below HBL.out⟩⟩, fun _ => hoe⟩
            case measure => simp [boolM]
        · obtain ⟨n1, n2⟩ := ne_facts hoe
          have HRF := Lib.hid (show rdFin lo hi o = ⟨o.e, [], o.p⟩ from if_neg hoe)
          have HPR := Lib.hid (HPq.out w3 H3.out HR3.out)
          generalize hoe2 : o.e = oe at *
          clear hoe hoe2 HPq
          cases cm with
          | true =>
            go_wp2_with fail
            refine HPR.out.mono ?_
            rintro e w4 ⟨v, rfl, h1, h2, h3⟩
            clear d0 d1 d2 d3 d4
            have HR4 := Lib.hid h2
            have H4 := Lib.hid (H3.out.trans h3)
            clear h1 h2 h3 H3 HR3 HC3 HPR
            go_wp2_with fail
            go_ret2
            rw [HRF.out]
            exact ⟨_, rfl, Own.nil _ _, HR4.out, H4.out⟩
          | false =>
            go_wp2_with fail
            refine HPR.out.mono ?_
            rintro e w4 ⟨v, rfl, h1, h2, h3⟩
            clear d0 d1 d2 d3 d4
            have HR4 := Lib.hid h2
            have H4 := Lib.hid (H3.out.trans h3)
            clear h1 h2 h3 H3 HR3 HC3 HPR
            go_wp2_with fail
            go_ret2
            rw [HRF.out]
            exact ⟨_, rfl, Own.nil _ _, HR4.out, H4.out⟩
      · have H2 := Lib.hid hon
        have HO2 := Lib.hid hown
        have HR2 := Lib.hid hrd
        obtain ⟨d0, d1, d2, d3, d4⟩ := hla.cells
        have hoe := hoe rfl
        obtain ⟨a, n, vc, rfl, hn⟩ := sl_shape' hown.sl
        clear hon hown hrd hla
        by_cases hc : (n : Int) < lo ∨ (0 ≤ hi ∧ hi < (n : Int))
        · have HRF := Lib.hid (show rdFin lo hi o = ⟨4, [], o.p⟩ by unfold rdFin; rw [if_pos hoe, hn, if_pos hc])
          have HA := Lib.hid (sadmits_ok al lo hi k tx n wr false (by rw [eq_comm, decide_eq_false_iff_not]; exact fun h => h hc))
          clear hc hoe
          go_wp2_with fail
          refine HA.out.mono ?_
          rintro e w3 ⟨rfl, hb1⟩
          have H3 := Lib.hid (H2.out.trans (Only.of_below hb1))
          have HR3 := Lib.hid (HR2.out.below hb1)
          clear hb1 H2 HR2 d0 d1 d2 d3 d4
          go_wp2_with fail
          go_ret2
          rw [HRF.out]
          exact ⟨_, rfl, Own.nil _ _, HR3.out, H3.out⟩
        · have HRF := Lib.hid (show rdFin lo hi o = ⟨0, o.l, o.p⟩ by unfold rdFin; rw [if_pos hoe, hn, if_neg hc])
          have HA := Lib.hid (sadmits_ok al lo hi k tx n wr true (by rw [eq_comm, decide_eq_true_eq]; exact hc))
          clear hc hoe
          go_wp2_with fail
          refine HA.out.mono ?_
          rintro e w3 ⟨rfl, hb1⟩
          have H3 := Lib.hid (H2.out.trans (Only.of_below hb1))
          have HR3 := Lib.hid (HR2.out.below hb1)
          have HO3 := Lib.hid (HO2.out.below hb1)
          clear hb1 H2 HR2 HO2 d0 d1 d2 d3 d4
          go_wp2_with fail
          go_ret2
          rw [HRF.out]
          exact ⟨_, rfl, HO3.out, HR3.out, H3.out⟩
  · rw [rS_err hv hf he]
    obtain ⟨n1, n2⟩ := ne_facts he
    generalize (gl al L p lo hi).e = er at *
    generalize (gl al L p lo hi).v = cv at *
    generalize (gl al L p lo hi).p = cp at *
    generalize (gl al L p lo hi).m = cm at *
    clear hf hU hm HU he hv
    go_enter Tryz.func30, Tryz.ntmps30
    go_wp2_with fail
    refine (HF.out _).mono ?_
    rintro e w1 ⟨rfl, hb1⟩
    have H1 := Lib.hid (H0.out.trans (Only.of_below hb1))
    have HR1 := Lib.hid (HR.out.below hb1)
    have HC1 := Lib.hid (HC.out.below hb1)
    clear hb1 H0 HR HC HF
    go_wp2_with fail
    go_loopw [8, 9, 10] (fun av lv mv wr => Only r w wr ∧ RdAt wr r s L p ∧ mv = .bool true ∧ LayAt wr w.heap.size al lo hi k tx) (fun _ _ _ _ => 0)
    case atStart => exact ⟨H1.out, HR1.out, rfl, HC1.out⟩
    case round =>
      clear H1 HR1 HC1
      obtain ⟨hon, hrd, rfl, hla⟩ := hrel
      have H2 := Lib.hid hon
      have HR2 := Lib.hid hrd
      obtain ⟨d0, d1, d2, d3, d4⟩ := hla.cells
      clear hon hrd hla
      go_wp2_with fail
      refine (HG.out wr HR2.out).mono ?_
      rintro e w3 ⟨rfl, h1, h2⟩
      have H3 := Lib.hid h1
      have H4 := Lib.hid (H2.out.trans h2)
      clear h1 h2 d0 d1 d2 d3 d4 H2 HR2
      go_wp2_with fail
      go_ret2
      exact ⟨_, rfl, Own.nil _ _, H3.out, H4.out⟩
end Go.Proofs.YtbpfggkpfaobhaaGreat
