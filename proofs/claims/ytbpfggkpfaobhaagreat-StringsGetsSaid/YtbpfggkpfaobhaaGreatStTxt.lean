/-
  Package strings: GetText.
-/
import Derived.Test.YtbpfggkpfaobhaaGreatStApi
namespace Go.Proofs.YtbpfggkpfaobhaaGreat
open Go.RowKit Go.Shelf
set_option linter.unusedVariables false
set_option linter.unusedSimpArgs false
set_option maxRecDepth 100000

def txtE (ch : Nat → Int) (o : Ro) : Int := if o.e = 0 then (if allOk ch o.l = true then 0 else 4) else o.e
def txtS (ch : Nat → Int) (o : Ro) : ByteArray := if o.e = 0 ∧ allOk ch o.l = true then bstr (o.l.map fun u => (ch u).toNat) else ⟨#[]⟩
set_option maxHeartbeats 2000000 in
theorem sgetText_arg (w : World) (r : Nat) (s : Value) (L : List Nat) (p : Nat) (al : Bool) (fr : ByteArray) (lo hi : Int) (h : RdAt w r s L p) (hfr : fr.size ≤ 9223372036854775807) (hv : lBad lo hi ∨ isAl (cods fr) = false) :
    Calls Tryz.prog 16 #[.pointer (some ⟨r, 0, none⟩), .bool al, .string fr, .int .i64 lo, .int .i64 hi] w fun e w' =>
      e = .returned (.tuple #[.string ⟨#[]⟩, .int .i64 1]) ∧ RdAt w' r s L p ∧ Only r w w' := by
  have HWd := Lib.hid (swidth_ok fr al w hfr)
  have HR := Lib.hid h
  clear h
  generalize wdT (cods fr) al = k at *
  by_cases hv1 : lBad lo hi
  · have HV := Lib.hid (fun w => svalid_ok al lo hi k true w false (by rw [eq_comm, decide_eq_false_iff_not]; exact fun h => h hv1))
    clear hv hv1
    go_enter Tryz.func16, Tryz.ntmps16
    go_wp2_with fail
    refine HWd.out.mono ?_
    rintro e w1 ⟨rfl, hb1⟩
    obtain ⟨hb0, hla⟩ := lay_new w1 al lo hi k true
    have H1 := Lib.hid (Only.of_below (b := r) (hb1.trans (hb0.mono hb1.size)))
    have HR1 := Lib.hid ((HR.out.below hb1).below hb0)
    obtain ⟨d0, d1, d2, d3, d4⟩ := hla.cells
    clear hb0 hb1 hla HR
    go_wp2_with fail
    refine (HV.out _).mono ?_
    rintro e w2 ⟨rfl, hb1⟩
    have H2 := Lib.hid (H1.out.trans (Only.of_below hb1))
    have HR2 := Lib.hid (HR1.out.below hb1)
    clear hb1 H1 HR1 d0 d1 d2 d3 d4
    go_wp2_with fail
    go_ret2
    exact ⟨rfl, HR2.out, H2.out⟩
  · have HV := Lib.hid (fun w => svalid_ok al lo hi k true w true (by rw [eq_comm, decide_eq_true_eq]; exact hv1))
    have hA : isAl (cods fr) = false := hv.resolve_left hv1
    have hIA := fun w => isAlphabet_ok fr w hfr
    rw [hA] at hIA
    have HIA := Lib.hid hIA
    clear hv hv1 hA hIA
    go_enter Tryz.func16, Tryz.ntmps16
    go_wp2_with fail
    refine HWd.out.mono ?_
    rintro e w1 ⟨rfl, hb1⟩
    obtain ⟨hb0, hla⟩ := lay_new w1 al lo hi k true
    have H1 := Lib.hid (Only.of_below (b := r) (hb1.trans (hb0.mono hb1.size)))
    have HR1 := Lib.hid ((HR.out.below hb1).below hb0)
    obtain ⟨d0, d1, d2, d3, d4⟩ := hla.cells
    clear hb0 hb1 hla HR
    go_wp2_with fail
    refine (HV.out _).mono ?_
    rintro e w2 ⟨rfl, hb1⟩
    have H2 := Lib.hid (H1.out.trans (Only.of_below hb1))
    have HR2 := Lib.hid (HR1.out.below hb1)
    clear hb1 H1 HR1 d0 d1 d2 d3 d4
    go_wp2_with fail
    refine (HIA.out _).mono ?_
    rintro e w3 ⟨rfl, hb1⟩
    have H3 := Lib.hid (H2.out.trans (Only.of_below hb1))
    have HR3 := Lib.hid (HR2.out.below hb1)
    clear hb1 H2 HR2
    go_wp2_with fail
    go_ret2
    exact ⟨rfl, HR3.out, H3.out⟩
set_option maxHeartbeats 8000000 in
theorem sgetText_ok (w : World) (r : Nat) (s : Value) (L : List Nat) (p : Nat) (al : Bool) (fr : ByteArray) (lo hi : Int) (h : RdAt w r s L p) (hfr : fr.size ≤ 9223372036854775807) (hA : isAl (cods fr) = true) (hv : ¬ lBad lo hi) (hL : L.length ≤ 1000000) (b2 : -9223372036854775808 ≤ lo ∧ lo ≤ 9223372036854775807) (b3 : -9223372036854775808 ≤ hi ∧ hi ≤ 9223372036854775807)
    (k : Nat) (hk : wdT (cods fr) al = k) (ch : Nat → Int) (hch : (fun u => chOf (cods fr) k u) = ch) (o : Ro) (ho : rS al true k (fun n p => uGo L k n p []) L p lo hi = o) (hm : Last al true k (fun n p => uGo L k n p []) L p lo hi) :
    Calls Tryz.prog 16 #[.pointer (some ⟨r, 0, none⟩), .bool al, .string fr, .int .i64 lo, .int .i64 hi] w fun e w' =>
      e = .returned (.tuple #[.string (txtS ch o), .int .i64 (txtE ch o)]) ∧ RdAt w' r s L o.p ∧ Only r w w' := by
  have hrw := h.lt
  have hk8 := wdT_le (cods fr) al
  rw [hk] at hk8
  have hWd := swidth_ok fr al w hfr
  rw [hk] at hWd
  have HWd := Lib.hid hWd
  have HR := Lib.hid h
  have HV := Lib.hid (fun w => svalid_ok al lo hi k true w true (by rw [eq_comm, decide_eq_true_eq]; exact hv))
  have hIA := fun w => isAlphabet_ok fr w hfr
  rw [hA] at hIA
  have HIA := Lib.hid hIA
  have hCh := fun w => scharacters_ok fr al w hfr hA
  rw [hk, hch] at hCh
  have HCh := Lib.hid hCh
  have HCc := Lib.hid (show ∀ u, ch u ≠ -1 → ∃ c : Nat, ch u = c ∧ c < 128 from fun u hu => by
    rw [← hch] at hu ⊢
    rcases chOf_cases hA k u with ⟨h1, _⟩ | ⟨c, h1, _, h2, _⟩
    · exact absurd h1 hu
    · exact ⟨c, h1, h2⟩)
  have HP := Lib.hid (fun (w1 : World) (g1 g2 : Nat) (h1 : RdAt w1 r s L p) (c1 : Cel w1 g1 25 (.pointer (some ⟨r, 0, none⟩))) (c2 : Cel w1 g2 3 (.int .i64 (k : Nat))) (e1 : g1 ≠ r) (e2 : g2 ≠ r) => sget_ok w1 r s L p al lo hi k true _ _ _ _ enters_units h1 (units_rd w1 r s L k g1 g2 c1 c2 hk8 e1 e2 hL) hv hk8 hL b2 b3 (fun n p => by have := uGo_len L k n p []; simpa using this) hm)
  rw [ho] at HP
  have HUn := Lib.hid (fun w => unitsOf_ok w r k)
  clear h hA hv hm ho hch hCh hIA hWd hk
  obtain ⟨oe, l, q⟩ := o
  simp only at HP ⊢
  by_cases he : oe = 0
  · subst he
    cases hok : allOk ch l with
    | false =>
      rw [show txtS ch ⟨0, l, q⟩ = ⟨#[]⟩ from if_neg (fun h => by have := h.2; rw [hok] at this; cases this), show txtE ch ⟨0, l, q⟩ = 4 from (if_pos rfl).trans (if_neg (by rw [hok]; simp))]
      have HOK := Lib.hid hok
      clear hok
      go_enter Tryz.func16, Tryz.ntmps16
      go_wp2_with fail
      refine HWd.out.mono ?_
      rintro e w1 ⟨rfl, hb1⟩
      obtain ⟨hb0, hla⟩ := lay_new w1 al lo hi k true
      have H1 := Lib.hid (Only.of_below (b := r) (hb1.trans (hb0.mono hb1.size)))
      have HR1 := Lib.hid ((HR.out.below hb1).below hb0)
      have HL1 := Lib.hid hla
      have hg1 : w.heap.size ≤ w1.heap.size := hb1.size
      obtain ⟨d0, d1, d2, d3, d4⟩ := hla.cells
      clear hb0 hb1 hla HWd
      go_wp2_with fail
      refine (HV.out _).mono ?_
      rintro e w2 ⟨rfl, hb1⟩
      have H2 := Lib.hid (H1.out.trans (Only.of_below hb1))
      have HR2 := Lib.hid (HR1.out.below hb1)
      have HL2 := Lib.hid (HL1.out.below hb1)
      clear hb1 H1 HR1 HL1 d0 d1 d2 d3 d4 HV
      go_wp2_with fail
      refine (HIA.out _).mono ?_
      rintro e w3 ⟨rfl, hb1⟩
      have H3 := Lib.hid (H2.out.trans (Only.of_below hb1)).drew
      have HR3 := Lib.hid ((HR2.out.below hb1).below ((Below.refl _ _).drew))
      have HL3 := Lib.hid ((HL2.out.below hb1).below ((Below.refl _ _).drew))
      obtain ⟨d0, d1, d2, d3, d4⟩ := (HL2.out.below hb1).cells
      have hg3 : w1.heap.size < w3.drew.heap.size := HL3.out.lt
      clear hb1 H2 HR2 HL2 HIA
      go_wp2_with fail
      go_region_held3 (fun w' => w'.cell? ⟨w1.heap.size, 0, none⟩ = some (.bool al) ∧ w'.cell? ⟨w1.heap.size, 1, none⟩ = some (.int .i64 lo) ∧ w'.cell? ⟨w1.heap.size, 2, none⟩ = some (.int .i64 hi) ∧ w'.cell? ⟨w1.heap.size, 3, none⟩ = some (.int .i64 (k : Nat)) ∧ w'.cell? ⟨w1.heap.size, 4, none⟩ = some (.bool true)) (first | exact ⟨d0, d1, d2, d3, d4⟩ | exact HS5.out | exact HS4.out) (first
        | (go_at_call 33; refine (HUn.out _).mono ?_; rintro e w4 ⟨rfl, h1, h2, h3⟩; have HC1 := Lib.hid h1; have HC2 := Lib.hid h2; have H4 := Lib.hid (H3.out.trans (Only.of_below h3)); have HR4 := Lib.hid (HR3.out.below h3); have HL4 := Lib.hid (HL3.out.below h3); have HS4 := Lib.hid HL4.out.cells; clear h1 h2 h3)
        | (go_at_call 30; refine (HP.out _ _ _ HR4.out HC1.out HC2.out (by omega) (by omega)).mono ?_; rintro e w5 ⟨v, rfl, h1, h2, h3⟩; have HO5 := Lib.hid h1; have HR5 := Lib.hid h2; have H5 := Lib.hid (H4.out.trans h3); have HS5 := Lib.hid (HL4.out.only h3 (by omega)).cells; clear h1 h2 h3))
      have HB5 := Lib.hid (HO5.out.base H4.out.size)
      clear HO5 HS4 HS5 HL4 HC1 HC2 HR4 H4 H3 HR3 HL3 d0 d1 d2 d3 d4 HP HUn
      go_wp2_with fail
      refine (HCh.out _).mono ?_
      rintro e w6 ⟨rfl, hb1⟩
      have hb2 := (Below.refl w6.heap.size w6).alloc (Nat.le_refl _) (.cells Tryz.zeroCells75 75)
      have T0 := Lib.hid (tab_new w6)
      have T7 := Lib.hid (T0.out.setCells (f' := ch))
      have hbs := below_setCells hb2 (Nat.le_refl _) (tabL ch) 0
      have H7 := Lib.hid ((H5.out.trans (Only.of_below hb1)).trans (Only.of_below hbs))
      have HR7 := Lib.hid ((HR5.out.below hb1).below hbs)
      have HB7 := Lib.hid ((HB5.out.below hb1).below hbs)
      have hg7 : w.heap.size ≤ w6.heap.size := Nat.le_trans H5.out.size hb1.size
      clear hb1 hb2 hbs H5 HR5 HB5 HCh
      have hmark : True := trivial
      go_wp2_with (clear hmark; refine wpList_store_tab rfl (.tmp 15) (.tmp 52) rfl w6.heap.size rfl ch rfl _ T0.out ?_; refine stp ?_)
      clear T0
      generalize World.setCells (w6.alloc (.cells Tryz.zeroCells75 75)) w6.heap.size 0 (tabL ch) = w7 at *
      generalize w6.heap.size = g7 at *
      unfold Stp
      have hmark : True := trivial
      go_wp2_with (clear hmark; refine wpList_load_tab rfl (.tmp 15) rfl g7 rfl ch T7.out ?_; refine stp ?_)
      unfold Stp
      have HHA := Lib.hid (shasAll_ok w7 ch v l HB7.out.sl (by have h1 := HB7.out.1.2; unfold maxLen at h1; rcases h1 with ⟨_, e⟩ | ⟨_, _, _, _, _, _, h2, h3, _⟩ <;> omega))
      rw [HOK.out] at HHA
      go_wp2_with fail
      refine HHA.out.mono ?_
      rintro e w8 ⟨rfl, hb1⟩
      have H8 := Lib.hid (H7.out.trans (Only.of_below hb1))
      have HR8 := Lib.hid (HR7.out.below hb1)
      clear hb1
      go_wp2_with fail
      go_ret2
      exact ⟨rfl, HR8.out, H8.out⟩
    | true =>
      rw [show txtS ch ⟨0, l, q⟩ = bstr (l.map fun u => (ch u).toNat) from if_pos ⟨rfl, hok⟩, show txtE ch ⟨0, l, q⟩ = 0 from (if_pos rfl).trans (if_pos hok)]
      have HOK := Lib.hid hok
      have HOKa := Lib.hid (fun i hi => HCc.out _ (allOk_at hok i hi))
      clear hok HCc
      go_enter Tryz.func16, Tryz.ntmps16
      go_wp2_with fail
      refine HWd.out.mono ?_
      rintro e w1 ⟨rfl, hb1⟩
      obtain ⟨hb0, hla⟩ := lay_new w1 al lo hi k true
      have H1 := Lib.hid (Only.of_below (b := r) (hb1.trans (hb0.mono hb1.size)))
      have HR1 := Lib.hid ((HR.out.below hb1).below hb0)
      have HL1 := Lib.hid hla
      have hg1 : w.heap.size ≤ w1.heap.size := hb1.size
      obtain ⟨d0, d1, d2, d3, d4⟩ := hla.cells
      clear hb0 hb1 hla HWd
      go_wp2_with fail
      refine (HV.out _).mono ?_
      rintro e w2 ⟨rfl, hb1⟩
      have H2 := Lib.hid (H1.out.trans (Only.of_below hb1))
      have HR2 := Lib.hid (HR1.out.below hb1)
      have HL2 := Lib.hid (HL1.out.below hb1)
      clear hb1 H1 HR1 HL1 d0 d1 d2 d3 d4 HV
      go_wp2_with fail
      refine (HIA.out _).mono ?_
      rintro e w3 ⟨rfl, hb1⟩
      have H3 := Lib.hid (H2.out.trans (Only.of_below hb1)).drew
      have HR3 := Lib.hid ((HR2.out.below hb1).below ((Below.refl _ _).drew))
      have HL3 := Lib.hid ((HL2.out.below hb1).below ((Below.refl _ _).drew))
      obtain ⟨d0, d1, d2, d3, d4⟩ := (HL2.out.below hb1).cells
      have hg3 : w1.heap.size < w3.drew.heap.size := HL3.out.lt
      clear hb1 H2 HR2 HL2 HIA
      go_wp2_with fail
      go_region_held3 (fun w' => w'.cell? ⟨w1.heap.size, 0, none⟩ = some (.bool al) ∧ w'.cell? ⟨w1.heap.size, 1, none⟩ = some (.int .i64 lo) ∧ w'.cell? ⟨w1.heap.size, 2, none⟩ = some (.int .i64 hi) ∧ w'.cell? ⟨w1.heap.size, 3, none⟩ = some (.int .i64 (k : Nat)) ∧ w'.cell? ⟨w1.heap.size, 4, none⟩ = some (.bool true)) (first | exact ⟨d0, d1, d2, d3, d4⟩ | exact HS5.out | exact HS4.out) (first
        | (go_at_call 33; refine (HUn.out _).mono ?_; rintro e w4 ⟨rfl, h1, h2, h3⟩; have HC1 := Lib.hid h1; have HC2 := Lib.hid h2; have H4 := Lib.hid (H3.out.trans (Only.of_below h3)); have HR4 := Lib.hid (HR3.out.below h3); have HL4 := Lib.hid (HL3.out.below h3); have HS4 := Lib.hid HL4.out.cells; clear h1 h2 h3)
        | (go_at_call 30; refine (HP.out _ _ _ HR4.out HC1.out HC2.out (by omega) (by omega)).mono ?_; rintro e w5 ⟨v, rfl, h1, h2, h3⟩; have HO5 := Lib.hid h1; have HR5 := Lib.hid h2; have H5 := Lib.hid (H4.out.trans h3); have HS5 := Lib.hid (HL4.out.only h3 (by omega)).cells; clear h1 h2 h3))
      have HB5 := Lib.hid (HO5.out.base H4.out.size)
      clear HO5 HS4 HS5 HL4 HC1 HC2 HR4 H4 H3 HR3 HL3 d0 d1 d2 d3 d4 HP HUn
      go_wp2_with fail
      refine (HCh.out _).mono ?_
      rintro e w6 ⟨rfl, hb1⟩
      have hb2 := (Below.refl w6.heap.size w6).alloc (Nat.le_refl _) (.cells Tryz.zeroCells75 75)
      have T0 := Lib.hid (tab_new w6)
      have T7 := Lib.hid (T0.out.setCells (f' := ch))
      have hbs := below_setCells hb2 (Nat.le_refl _) (tabL ch) 0
      have H7 := Lib.hid ((H5.out.trans (Only.of_below hb1)).trans (Only.of_below hbs))
      have HR7 := Lib.hid ((HR5.out.below hb1).below hbs)
      have HB7 := Lib.hid ((HB5.out.below hb1).below hbs)
      have hg7 : w.heap.size ≤ w6.heap.size := Nat.le_trans H5.out.size hb1.size
      clear hb1 hb2 hbs H5 HR5 HB5 HCh
      have hmark : True := trivial
      go_wp2_with (clear hmark; refine wpList_store_tab rfl (.tmp 15) (.tmp 52) rfl w6.heap.size rfl ch rfl _ T0.out ?_; refine stp ?_)
      clear T0
      generalize World.setCells (w6.alloc (.cells Tryz.zeroCells75 75)) w6.heap.size 0 (tabL ch) = w7 at *
      generalize w6.heap.size = g7 at *
      unfold Stp
      have hmark : True := trivial
      go_wp2_with (clear hmark; refine wpList_load_tab rfl (.tmp 15) rfl g7 rfl ch T7.out ?_; refine stp ?_)
      unfold Stp
      have HHA := Lib.hid (shasAll_ok w7 ch v l HB7.out.sl (by have h1 := HB7.out.1.2; unfold maxLen at h1; rcases h1 with ⟨_, e⟩ | ⟨_, _, _, _, _, _, h2, h3, _⟩ <;> omega))
      rw [HOK.out] at HHA
      go_wp2_with fail
      refine HHA.out.mono ?_
      rintro e w8 ⟨rfl, hb1⟩
      have H8 := Lib.hid (H7.out.trans (Only.of_below hb1))
      have HR8 := Lib.hid (HR7.out.below hb1)
      have HB8 := Lib.hid (HB7.out.below hb1)
      have T8 := Lib.hid (T7.out.below hb1)
      clear hb1 H7 HR7 HB7 T7 HHA HOK
      rcases HB8.out.shape with ⟨rfl, hnil⟩ | ⟨g, vc, rfl, hg, _⟩
      · subst hnil
        have cs := fun w => conv_sl w (.slice none 0 0) [] (.inr ⟨rfl, _, _, rfl⟩)
        go_wp2_with fail
        go_loopw [59] (fun i wr => i = .int .i64 0 ∧ wr = w8) (fun _ _ => 0)
        case atStart => exact ⟨rfl, rfl⟩
        case round =>
          obtain ⟨rfl, rfl⟩ := hrel
          go_wp2_with fail
          go_ret2
          exact ⟨rfl, HR8.out, H8.out⟩
      · obtain ⟨n, hn⟩ : ∃ n, l.length = n := ⟨_, rfl⟩
        have hgt : g7 ≠ g := by
          rintro rfl
          have h2 := T8.out
          rcases HB8.out.1.2 with ⟨e, _⟩ | ⟨g', cap', cur, e, _, h1, _⟩
          · cases e
          · injection e with e1 e2 e3
            injection e1 with e1
            injection e1 with e1
            subst e1
            unfold TabAt at h2
            rw [h1] at h2
            injection h2 with h2
            injection h2 with _ h2 _
            exact absurd h2 (by decide)
        have hn6 : n ≤ 9223372036854775807 := by
          have h1 := HB8.out.1.2
          rcases h1 with ⟨e, _⟩ | ⟨_, _, _, _, _, _, h2, h3, _⟩
          · cases e
          · unfold maxLen at h3
            omega
        rw [hn] at HB8 ⊢
        have HN := Lib.hid hn
        clear hn
        go_wp2_with fail
        go_loopw [59] (fun i wr => RelIn w r s L q (fun u => (ch u).toNat) (.slice (some ⟨g, 0, none⟩) n vc) l i wr ∧ TabAt wr g7 ch) (fun i _ => n - (intOf i).toNat)
        case atStart => exact ⟨⟨0, Nat.zero_le _, rfl, by rw [mp_zero]; exact HB8.out, HR8.out, H8.out⟩, T8.out⟩
        case round =>
          clear HB8 HR8 H8 T8
          obtain ⟨⟨j, hj, rfl, h1, h2, h3⟩, h4⟩ := hrel
          rw [HN.out] at hj
          have H1 := Lib.hid h1
          have H2 := Lib.hid h2
          have H3 := Lib.hid h3
          have H4 := Lib.hid h4
          clear h1 h2 h3 h4
          by_cases hlt : j < n
          · have q1 : decide ((j : Int) < (n : Int)) = true := decide_eq_true (by omega)
            have hjl : j < l.length := by rw [HN.out]; exact hlt
            have hml := mp_length (fun u => (ch u).toNat) j l
            obtain ⟨y, hy, hy8⟩ := HOKa.out j hjl
            obtain ⟨x, hx⟩ : ∃ x, l.getD j 0 = x := ⟨_, rfl⟩
            have hc1 : wr.cell? ⟨g, j, none⟩ = some (.int .u8 (x : Nat)) ∧ x < 256 := by
              rcases H1.out.shape with ⟨e, _⟩ | ⟨g', cap', e, _, hd⟩
              · cases e
              · injection e with e1 e2 e3
                injection e1 with e1
                injection e1 with e1
                subst e1
                have h1 := hd.cell j (by rw [hml]; exact hjl)
                have h2 := hd.byte j
                rw [mp_get _ j l hjl, hx] at h2
                rw [Nat.zero_add, mp_get _ j l hjl, hx] at h1
                exact ⟨h1, h2⟩
            obtain ⟨c1, hx8⟩ := hc1
            have f1 : wr.frozen? ⟨g, j, none⟩ = false := by
              have h1 := H1.out.1
              rw [hml, HN.out] at h1
              exact h1.frozenAt j
            have c2 := H4.out.cell x hx8
            rw [hx] at hy
            rw [hy] at c2
            have q2 : (y : Int) % 256 = (y : Int) := by omega
            have q3 : (0 : Int) ≤ (x : Int) := by omega
            have q4 : (x : Int) < 256 := by omega
            have hfx : (fun u => (ch u).toNat) (l.getD j 0) = y := by show (ch (l.getD j 0)).toNat = y; rw [hx, hy]; rfl
            have HNX := Lib.hid (relIn_next (f := fun u => (ch u).toNat) HR.out hjl (show (fun u => (ch u).toNat) (l.getD j 0) < 256 from hfx ▸ (by omega)) hg H1.out H2.out H3.out y hfx)
            have HNT := Lib.hid (show TabAt (wr.setCell ⟨g, j, none⟩ (.int .u8 (y : Nat))) g7 ch from (heap_setCell_other _ _ _ _ hgt).trans H4.out)
            clear hx hy hfx hml hjl H1 H2 H3 H4
            go_wp2_with fail
            go_roundw
            case rel => exact ⟨HNX.out, HNT.out⟩
            case measure => simp [intOf]; omega
          · obtain rfl : j = n := by omega
            have q1 : decide ((j : Int) < (j : Int)) = false := decide_eq_false (by omega)
            have h1 := H1.out
            rw [← HN.out, mp_all] at h1
            have cs := conv_sl wr _ _ h1.sl
            rw [HN.out] at cs
            clear h1 H1
            go_wp2_with fail
            go_ret2
            exact ⟨rfl, H2.out, H3.out⟩
  · obtain ⟨n1, n2⟩ := ne_facts he
    rw [show txtS ch ⟨oe, l, q⟩ = ⟨#[]⟩ from if_neg (fun h => he h.1), show txtE ch ⟨oe, l, q⟩ = oe from if_neg he]
    clear he
    go_enter Tryz.func16, Tryz.ntmps16
    go_wp2_with fail
    refine HWd.out.mono ?_
    rintro e w1 ⟨rfl, hb1⟩
    obtain ⟨hb0, hla⟩ := lay_new w1 al lo hi k true
    have H1 := Lib.hid (Only.of_below (b := r) (hb1.trans (hb0.mono hb1.size)))
    have HR1 := Lib.hid ((HR.out.below hb1).below hb0)
    have HL1 := Lib.hid hla
    have hg1 : w.heap.size ≤ w1.heap.size := hb1.size
    obtain ⟨d0, d1, d2, d3, d4⟩ := hla.cells
    clear hb0 hb1 hla HWd
    go_wp2_with fail
    refine (HV.out _).mono ?_
    rintro e w2 ⟨rfl, hb1⟩
    have H2 := Lib.hid (H1.out.trans (Only.of_below hb1))
    have HR2 := Lib.hid (HR1.out.below hb1)
    have HL2 := Lib.hid (HL1.out.below hb1)
    clear hb1 H1 HR1 HL1 d0 d1 d2 d3 d4 HV
    go_wp2_with fail
    refine (HIA.out _).mono ?_
    rintro e w3 ⟨rfl, hb1⟩
    have H3 := Lib.hid (H2.out.trans (Only.of_below hb1)).drew
    have HR3 := Lib.hid ((HR2.out.below hb1).below ((Below.refl _ _).drew))
    have HL3 := Lib.hid ((HL2.out.below hb1).below ((Below.refl _ _).drew))
    obtain ⟨d0, d1, d2, d3, d4⟩ := (HL2.out.below hb1).cells
    have hg3 : w1.heap.size < w3.drew.heap.size := HL3.out.lt
    clear hb1 H2 HR2 HL2 HIA
    go_wp2_with fail
    go_region_held3 (fun w' => w'.cell? ⟨w1.heap.size, 0, none⟩ = some (.bool al) ∧ w'.cell? ⟨w1.heap.size, 1, none⟩ = some (.int .i64 lo) ∧ w'.cell? ⟨w1.heap.size, 2, none⟩ = some (.int .i64 hi) ∧ w'.cell? ⟨w1.heap.size, 3, none⟩ = some (.int .i64 (k : Nat)) ∧ w'.cell? ⟨w1.heap.size, 4, none⟩ = some (.bool true)) (first | exact ⟨d0, d1, d2, d3, d4⟩ | exact HS5.out | exact HS4.out) (first
      | (go_at_call 33; refine (HUn.out _).mono ?_; rintro e w4 ⟨rfl, h1, h2, h3⟩; have HC1 := Lib.hid h1; have HC2 := Lib.hid h2; have H4 := Lib.hid (H3.out.trans (Only.of_below h3)); have HR4 := Lib.hid (HR3.out.below h3); have HL4 := Lib.hid (HL3.out.below h3); have HS4 := Lib.hid HL4.out.cells; clear h1 h2 h3)
      | (go_at_call 30; refine (HP.out _ _ _ HR4.out HC1.out HC2.out (by omega) (by omega)).mono ?_; rintro e w5 ⟨v, rfl, h1, h2, h3⟩; have HO5 := Lib.hid h1; have HR5 := Lib.hid h2; have H5 := Lib.hid (H4.out.trans h3); have HS5 := Lib.hid (HL4.out.only h3 (by omega)).cells; clear h1 h2 h3))
    have HB5 := Lib.hid (HO5.out.base H4.out.size)
    clear HO5 HS4 HS5 HL4 HC1 HC2 HR4 H4 H3 HR3 HL3 d0 d1 d2 d3 d4 HP HUn
    go_wp2_with fail
    go_ret2
    exact ⟨rfl, HR5.out, H5.out⟩
end Go.Proofs.YtbpfggkpfaobhaaGreat
