/-
  The document's answer for package strings: GetText.
-/
import Derived.Test.YtbpfggkpfaobhaaGreatStRefH
import Derived.Deep.RegionHeld3
namespace Go.Proofs.YtbpfggkpfaobhaaGreat
open Go.RowKit Go.Shelf
set_option linter.unusedVariables false
set_option linter.unusedSimpArgs false
set_option maxRecDepth 100000

theorem rgetText_arg (w : World) (b : Nat) (al : Bool) (fr : ByteArray) (lo hi : Int) (hfr : fr.size ≤ 1000000) (hA : isAl (cods fr) = false) :
    Calls Tryz.prog 17 #[.pointer (some ⟨b, 0, none⟩), .bool al, .string fr, .int .i64 lo, .int .i64 hi] w fun e w2 => e = .returned (.tuple #[.string ⟨#[]⟩, .int .i64 1]) ∧ Below w.heap.size w w2 := by
  have hAl := fun w => ralphabet_ok fr w (by omega)
  rw [hA] at hAl
  have HAl := Lib.hid hAl
  clear hAl hA
  go_enter Tryz.func17, Tryz.ntmps17
  go_wp2_with fail
  refine (HAl.out _).mono ?_
  rintro e w1 ⟨rfl, hb1⟩
  have H1 := Lib.hid hb1
  clear hb1
  go_wp2_with fail
  go_ret2
  exact ⟨rfl, H1.out⟩
/-- the search for a unit's character -/
def RelTx (w : World) (j : Nat) (z : List Nat) (f : Nat → Int) (u : Nat) (c : Prop) (v fv cv : Value) (wr : World) : Prop :=
  ∃ m : Nat, m ≤ 128 ∧ cv = .int .i64 m ∧ Below w.heap.size w wr ∧ ((fv = .bool false ∧ Own w.heap.size wr v (z.take j) ∧ ∀ d, d < m → f d ≠ u) ∨ (fv = .bool true ∧ Own w.heap.size wr v (z.take (j + 1)) ∧ c))
def RelTo (w : World) (n : Nat) (z : List Nat) (ch : Nat → Int) (l : List Nat) (v i : Value) (wr : World) : Prop := ∃ j : Nat, j ≤ n ∧ i = .int .i64 j ∧ Own w.heap.size wr v (z.take j) ∧ Below w.heap.size w wr ∧ ∀ i, i < j → ch (l.getD i 0) ≠ -1
theorem relTx_found {w w4 : World} {n j m : Nat} {z : List Nat} {f : Nat → Int} {u : Nat} {c : Prop} {v : Value} (hj : j < n) (hn : z.length = n) (hx : z.getD j 0 = m) (hz : ∀ i, z.getD i 0 < 256) (hm : m < 128) (hc : c) (h : w4.ownsRow w.heap.size 5 1 v ((z.take j).length + 1) (u8s (z.take j) ++ [.int .u8 (m : Nat)])) (hb : Below w.heap.size w w4) : RelTx w j z f u c v (.bool true) (.int .i64 ((m : Int) + 1)) w4 := by
  refine ⟨m + 1, hm, by go_num, hb, .inr ⟨rfl, ?_, hc⟩⟩
  have e : z.take (j + 1) = z.take j ++ [m] := by
    rw [List.take_succ_eq_append_getElem (by omega), ← hx]
    simp [List.getD_eq_getElem?_getD, hn, hj]
  rw [e]
  exact own_snoc h (getD_lt fun y hy => mem_lt hz y (List.mem_of_mem_take hy)) (by omega)
theorem numOf_range {l : List Nat} (h : isAl l = true) (al : Bool) (c : Nat) : -1 ≤ numOf l (wdT l al) c ∧ numOf l (wdT l al) c < 256 := by
  refine ⟨tnum_ge _ _ _, ?_⟩
  by_cases hm : c ∈ sp l
  · obtain ⟨n, h1, _, h2⟩ := nmo_fits h al hm
    rw [h1]
    omega
  · rw [nmo_neg hm]
    omega
set_option maxHeartbeats 8000000 in
theorem rgetText_ok (w : World) (b : Nat) (L : List Nat) (p : Nat) (al : Bool) (fr : ByteArray) (lo hi : Int) (hq : QAt w b (bitsOf L) p) (hfr : fr.size ≤ 1000000) (hA : isAl (cods fr) = true) (hL : L.length ≤ 2000) (b2 : -9223372036854775808 ≤ lo ∧ lo ≤ 9223372036854775807) (b3 : -9223372036854775808 ≤ hi ∧ hi ≤ 9223372036854775807)
    (k : Nat) (hk : wdT (cods fr) al = k) (ch : Nat → Int) (hch : (fun u => chOf (cods fr) k u) = ch) (o : Ro) (ho : rS al true k (fun n p => uGo L k n p []) L p lo hi = o) (hm : Last al true k (fun n p => uGo L k n p []) L p lo hi) :
    Calls Tryz.prog 17 #[.pointer (some ⟨b, 0, none⟩), .bool al, .string fr, .int .i64 lo, .int .i64 hi] w fun e w2 => e = .returned (.tuple #[.string (txtS ch o), .int .i64 (txtE ch o)]) ∧ QAt w2 b (bitsOf L) o.p ∧ Only b w w2 := by
  obtain ⟨i0, hi0, hz0, hz1, hz2⟩ := info_parts info_u8
  have hk8 := wdT_le (cods fr) al
  rw [hk] at hk8
  have hAl := fun w => ralphabet_ok fr w (by omega)
  rw [hA] at hAl
  have HAl := Lib.hid hAl
  have hWd := fun w => rwidth6_ok fr al w (by omega)
  rw [hk] at hWd
  have HWd := Lib.hid hWd
  have hP := fun (w1 : World) (h : QAt w1 b (bitsOf L) p) => rgetS_ok w1 b L p al k true lo hi h hk8 (by omega) b2 b3 hm
  rw [ho] at hP
  have hlen := rS_len al true k L p lo hi
  rw [ho] at hlen
  have hnl := rS_nil al true k L p lo hi
  rw [ho] at hnl
  have hlt := rS_lt al true k hk8 L p lo hi
  rw [ho] at hlt
  have h7 : fr.size = 0 → 7 ≤ k := fun h => by
    have e : cods fr = [] := List.length_eq_zero_iff.1 (by rw [cods_length, h])
    rw [← hk, e]
    exact wdT_7 al
  have HN := Lib.hid (fun (c : Nat) (w1 : World) (hc : c < 256) => rnumber_ok fr c k w1 hfr hc hk8 h7)
  obtain ⟨f, hf⟩ : ∃ f, (fun c => numOf (cods fr) k c) = f := ⟨_, rfl⟩
  have hfe : ∀ c, numOf (cods fr) k c = f c := fun c => by rw [← hf]
  have HCH := Lib.hid (show ∀ u, (ch u = -1 ∧ ∀ c, f c ≠ u) ∨ ∃ c : Nat, ch u = c ∧ f c = u ∧ c < 128 ∧ ∀ d, f d = u → d = c from fun u => by
    rw [← hch, ← hf]
    exact chOf_cases hA k u)
  have HFR := Lib.hid (show ∀ c, -1 ≤ f c ∧ f c < 256 from fun c => by
    rw [← hf, ← hk]
    exact numOf_range hA al c)
  simp only [hfe] at HN
  obtain ⟨oe, l, q⟩ := o
  simp only at hP hlen hnl hlt ⊢
  have HP := Lib.hid hP
  have HQ0 := Lib.hid hq
  have h2k : 2 ^ k ≤ 256 := pow_le hk8
  have HLT := Lib.hid (show ∀ j, j < l.length → l.getD j 0 < 256 from fun j hj => by have := hlt _ (getD_mem hj); omega)
  have HM := Lib.hid (show ∀ j, j < l.length → (l.map fun u => (ch u).toNat).getD j 0 = (ch (l.getD j 0)).toNat from fun j hj => by
    rw [List.getD_eq_getElem?_getD, List.getD_eq_getElem?_getD, List.getElem?_map, List.getElem?_eq_getElem hj]
    rfl)
  have HM8 := Lib.hid (show ∀ i, (l.map fun u => (ch u).toNat).getD i 0 < 256 from getD_lt fun x hx => by
    obtain ⟨y, _, rfl⟩ := List.mem_map.1 hx
    rcases HCH.out y with ⟨h, _⟩ | ⟨c, h, _, h2, _⟩
    · rw [h]; decide
    · rw [h, Int.toNat_natCast]; omega)
  have HML := Lib.hid (show (l.map fun u => (ch u).toNat).length = l.length from List.length_map ..)
  have HT0 := Lib.hid (show oe = 0 → allOk ch l = true → txtS ch ⟨oe, l, q⟩ = bstr (l.map fun u => (ch u).toNat) ∧ txtE ch ⟨oe, l, q⟩ = 0 from fun h1 h2 => ⟨if_pos ⟨h1, h2⟩, (if_pos h1).trans (if_pos h2)⟩)
  have HT4 := Lib.hid (show oe = 0 → allOk ch l = false → txtS ch ⟨oe, l, q⟩ = ⟨#[]⟩ ∧ txtE ch ⟨oe, l, q⟩ = 4 from fun h1 h2 => ⟨if_neg (fun h => by have := h.2; rw [h2] at this; cases this), (if_pos h1).trans (if_neg (by rw [h2]; simp))⟩)
  have HTe := Lib.hid (show oe ≠ 0 → txtS ch ⟨oe, l, q⟩ = ⟨#[]⟩ ∧ txtE ch ⟨oe, l, q⟩ = oe from fun h1 => ⟨if_neg (fun h => h1 h.1), if_neg h1⟩)
  generalize txtS ch ⟨oe, l, q⟩ = TS at *
  generalize txtE ch ⟨oe, l, q⟩ = TE at *
  generalize (l.map fun u => (ch u).toNat) = z at *
  clear hP hlt hq hnl hAl hWd hf hfe hch ho hm hk hA h7 hk8 h2k
  by_cases he : oe = 0
  · subst he
    have HA0 := Lib.hid (HT0.out rfl)
    have HA4 := Lib.hid (HT4.out rfl)
    clear HTe HT0 HT4
    go_enter Tryz.func17, Tryz.ntmps17
    go_wp2_with fail
    refine (HAl.out _).mono ?_
    rintro e w1 ⟨rfl, hb1⟩
    have HB1 := Lib.hid hb1
    have HQ1 := Lib.hid (HQ0.out.below hb1)
    clear hb1 HAl HQ0
    go_wp2_with fail
    refine (HWd.out _).mono ?_
    rintro e w2 ⟨rfl, hb1⟩
    have HO2 := Lib.hid (Only.of_below (b := b) (HB1.out.trans (hb1.mono HB1.out.size)))
    have HQ2 := Lib.hid (HQ1.out.below hb1)
    clear hb1 HWd HQ1 HB1
    go_wp2_with fail
    refine (HP.out _ HQ2.out).mono ?_
    rintro e w3 ⟨v, rfl, h1, h2, h3⟩
    obtain ⟨a, n, cap, rfl, hzn, hcap⟩ := h1.shape
    rw [ints_length] at hzn
    have HIN := Lib.hid h1
    have HQ3 := Lib.hid h2
    have HO3 := Lib.hid (HO2.out.trans h3)
    have HZ := Lib.hid hzn
    have HZZ := Lib.hid (show z.length = n from HML.out.trans hzn)
    have hn5 : n ≤ 100000 := by omega
    clear h1 h2 h3 hzn hlen HP HML HQ2 HO2
    go_wp2_with fail
    go_loopw [15, 16] (fun v i wr => RelTo w3 n z ch l v i wr) (fun _ i _ => n - (intOf i).toNat)
    case atStart => exact ⟨0, Nat.zero_le _, rfl, Own.nil _ _, Below.refl _ _, fun i hi => absurd hi (Nat.not_lt_zero _)⟩
    case round =>
      obtain ⟨j, hj, rfl, hown, hbel, hoks⟩ := hrel
      have HOW := Lib.hid hown
      have HB := Lib.hid hbel
      have HOK := Lib.hid hoks
      clear hown hbel hoks
      by_cases hlt : j < n
      · have q1 : decide ((j : Int) < (n : Int)) = true := decide_eq_true (by omega)
        obtain ⟨g, og, rfl, hcl⟩ := InAt.ptr HIN.out (show 0 < n by omega)
        obtain ⟨x, hx⟩ : ∃ x, l.getD j 0 = x := ⟨_, rfl⟩
        have hcj := hcl j hlt
        rw [ints_at, hx] at hcj
        have HC := Lib.hid (show ∀ w' : World, Below w3.heap.size w3 w' → w'.cell? ⟨g, og + j, none⟩ = some (.int .i64 (x : Nat)) from fun w' h => by
          rw [← hcj]
          exact World.cell?_of_block (w := w3) (h.block g (World.block_lt_of_cell? w3 _ hcj)))
        have hjl : j < l.length := by rw [HZ.out]; exact hlt
        have HX := Lib.hid (show z.getD j 0 = (ch x).toNat by rw [HM.out j hjl, hx])
        have HXX := Lib.hid hx
        have hzt : (z.take j).length ≤ 100000 := by rw [List.length_take, HZZ.out]; omega
        clear hcl hx hcj hjl
        go_wp2_with fail
        obtain ⟨wo, rfl⟩ : ∃ wo : World, wo = wr := ⟨_, rfl⟩
        go_loopw [15, 17, 18] (fun v fv cv wr => RelTx w3 j z f x (ch x ≠ -1) v fv cv wr) (fun _ _ cv _ => 128 - (intOf cv).toNat)
        case atStart => exact ⟨0, Nat.zero_le _, rfl, HB.out, .inl ⟨rfl, HOW.out, fun d hd => absurd hd (Nat.not_lt_zero _)⟩⟩
        case round =>
          clear HB HOW
          obtain ⟨m, hm8, rfl, hbel, ⟨rfl, hown, hno⟩ | ⟨rfl, hown, hcx⟩⟩ := hrel
          · have HOW := Lib.hid hown
            have HB := Lib.hid hbel
            have HNO := Lib.hid hno
            clear hown hbel hno
            by_cases hm : m < 128
            · have r1 : decide ((m : Int) < 128) = true := decide_eq_true (by omega)
              have r1n : decide (m < 128) = true := decide_eq_true hm
              have r2 : (m : Int) % 256 = (m : Int) := by omega
              have c1 := HC.out _ HB.out
              have HNM := Lib.hid (fun (y : Int) (hy : y = m) w1 => (show Calls Tryz.prog 39 #[.string fr, .int .u8 y, .int .i64 (k : Nat)] w1 fun e w' => e = .returned (.int .i64 (f m)) ∧ w1 = w' from by rw [hy]; exact HN.out m w1 (by omega)))
              have r2w : IntKind.u8.wrap (m : Int) = (m : Int) := r2
              obtain ⟨R, hR⟩ : ∃ R, f m = R := ⟨_, rfl⟩
              have hRr := HFR.out m
              rw [hR] at HNM hRr
              have q5 : (0 : Int) ≤ (j : Int) := by omega
              have q6 : (j : Int) < (n : Int) := by omega
              have HRR := Lib.hid hR
              clear hR
              have HBd := Lib.hid HB.out.drew
              have HOWd := Lib.hid (HOW.out.below ((Below.refl _ _).drew))
              clear HOW HB
              by_cases hR : R = (x : Int)
              · have r3 : (R == (x : Int)) = true := by rw [hR]; simp
                have r4 : decide (R = (x : Int)) = true := decide_eq_true hR
                have HCX := Lib.hid (show ch x = (m : Nat) from by
                  rcases HCH.out x with ⟨_, h⟩ | ⟨c, h, _, _, h2⟩
                  · exact absurd (HRR.out.trans hR) (h m)
                  · rw [h, h2 m (HRR.out.trans hR)])
                clear hR
                go_wp2_with fail
                go_region_held3 (fun w' => w'.cell? ⟨g, og + j, none⟩ = some (.int .i64 (x : Nat))) (first | exact c1) (first | (go_at_call 39; refine (HNM.out _ (by first | exact r2w | exact r2 | rfl) _).mono ?_; rintro e w5 ⟨rfl, rfl⟩))
                generalize World.drew wr = wd at *
                have hsz := HBd.out.size
                go_wp2_with (at_builtin; refine wpList_append_own _ rfl (.tmp 62) (.tmp 65) 22 rfl w3.heap.size 5 i0 (.int .u8 0) 1 1 Tryz.underlying22 hi0 hz0 hz1 hz2 rfl (by decide) _ (z.take j).length (u8s (z.take j)) rfl (HOWd.out.1.alloc _) ⟨wd.heap.size, 0, none⟩ 1 1 [.int .u8 (m : Nat)] rfl rfl (cell_one_new _ _ _) (by simp [Value.oneCell']) (by unfold maxLen; omega) (by omega) (by simp; omega) ?_; intro v' w4 hown4 hgr4 _; have HO4 := Lib.hid hown4; have HG4 := Lib.hid hgr4; clear hown4 hgr4)
                have h2 := HOWd.out.1.alloc (.cells #[.int .u8 (m : Nat)] 5)
                have HB4 := Lib.hid ((HBd.out.alloc HBd.out.size (.cells #[.int .u8 (m : Nat)] 5)).grown HG4.out (by simp; omega) (fun k hk => (h2.lt k hk).1))
                clear h2 HG4 HOWd HBd c1
                go_roundw
                case rel => exact relTx_found hlt HZZ.out (by rw [HX.out, HCX.out]; rfl) HM8.out hm (by rw [HCX.out]; omega) HO4.out HB4.out
                case measure => simp [intOf]; omega
              · have r3 : (R == (x : Int)) = false := by simpa using hR
                have r4 : decide (R = (x : Int)) = false := decide_eq_false hR
                have HNO2 := Lib.hid (show ∀ d, d < m + 1 → f d ≠ x from fun d hd => by
                  by_cases e : d = m
                  · rw [e, HRR.out]; exact hR
                  · exact HNO.out d (by omega))
                clear hR
                go_wp2_with fail
                go_region_held3 (fun w' => w'.cell? ⟨g, og + j, none⟩ = some (.int .i64 (x : Nat))) (first | exact c1) (first | (go_at_call 39; refine (HNM.out _ (by first | exact r2w | exact r2 | rfl) _).mono ?_; rintro e w5 ⟨rfl, rfl⟩))
                generalize World.drew wr = wd at *
                go_wp2_with fail
                go_roundw
                case rel => exact ⟨m + 1, hm, by go_num, HBd.out, .inl ⟨rfl, HOWd.out, HNO2.out⟩⟩
                case measure => simp [intOf]; omega
            · obtain rfl : m = 128 := by omega
              have HF := Lib.hid (show allOk ch l = false from allOk_no j (by rw [HZ.out]; exact hlt) (by
                rw [HXX.out]
                rcases HCH.out x with ⟨h, _⟩ | ⟨c, _, h, h2, _⟩
                · exact h
                · exact absurd h (HNO.out c h2)))
              have hT := HA4.out HF.out
              have HO5 := Lib.hid (HO3.out.trans (Only.of_below HB.out))
              have HQ5 := Lib.hid (HQ3.out.below HB.out)
              clear HOW HB
              go_wp2_with fail
              go_ret2
              rw [hT.1, hT.2]
              exact ⟨rfl, HQ5.out, HO5.out⟩
          · have HOW := Lib.hid hown
            have HB := Lib.hid hbel
            have HOK2 := Lib.hid (show ∀ i, i < j + 1 → ch (l.getD i 0) ≠ -1 from fun i hi => by
              by_cases e : i = j
              · rw [e, HXX.out]; exact hcx
              · exact HOK.out i (by omega))
            clear hown hbel hcx
            by_cases hm : m < 128
            · have r1 : decide ((m : Int) < 128) = true := decide_eq_true (by omega)
              have r1n : decide (m < 128) = true := decide_eq_true hm
              go_wp2_with fail
              go_roundw
              case rel => exact ⟨j + 1, hlt, by go_num, HOW.out, HB.out, HOK2.out⟩
              case measure => simp [intOf]; omega
            · obtain rfl : m = 128 := by omega
              go_wp2_with fail
              go_roundw
              case rel => exact ⟨j + 1, hlt, by go_num, HOW.out, HB.out, HOK2.out⟩
              case measure => simp [intOf]; omega
      · obtain rfl : j = n := by omega
        have q1 : decide ((j : Int) < (j : Int)) = false := decide_eq_false (by omega)
        have hown := HOW.out
        rw [List.take_of_length_le (by rw [HZZ.out]; exact Nat.le_refl _)] at hown
        have cs := conv_sl wr _ _ hown.sl
        have hT := HA0.out (allOk_all fun i hi => HOK.out i (by rw [HZ.out] at hi; exact hi))
        have HQ5 := Lib.hid (HQ3.out.below HB.out)
        have HO5 := Lib.hid (HO3.out.trans (Only.of_below HB.out))
        clear hown HOW HB
        go_wp2_with fail
        go_ret2
        rw [hT.1, hT.2]
        exact ⟨rfl, HQ5.out, HO5.out⟩
  · have hT := HTe.out he
    obtain ⟨n1, n2⟩ := ne_facts he
    clear HT0 HT4 he
    go_enter Tryz.func17, Tryz.ntmps17
    go_wp2_with fail
    refine (HAl.out _).mono ?_
    rintro e w1 ⟨rfl, hb1⟩
    have HB1 := Lib.hid hb1
    have HQ1 := Lib.hid (HQ0.out.below hb1)
    clear hb1 HAl HQ0
    go_wp2_with fail
    refine (HWd.out _).mono ?_
    rintro e w2 ⟨rfl, hb1⟩
    have HO2 := Lib.hid (Only.of_below (b := b) (HB1.out.trans (hb1.mono HB1.out.size)))
    have HQ2 := Lib.hid (HQ1.out.below hb1)
    clear hb1 HWd HQ1 HB1
    go_wp2_with fail
    refine (HP.out _ HQ2.out).mono ?_
    rintro e w3 ⟨v, rfl, h1, h2, h3⟩
    have HQ3 := Lib.hid h2
    have HO3 := Lib.hid (HO2.out.trans h3)
    clear h1 h2 h3 HP
    go_wp2_with fail
    go_ret2
    rw [hT.1, hT.2]
    exact ⟨rfl, HQ3.out, HO3.out⟩
end Go.Proofs.YtbpfggkpfaobhaaGreat
