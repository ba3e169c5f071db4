/-
  Proved: the statement StringsBack (what was put is got, in as many bits, behind any bits: octets, bits, characters, one behind the other), for every input; no further condition.
-/
import Derived.Test.YtbbbgoigacledaaRows
import Derived.Test.YtbbbgoigacledaaStLaw
import Derived.Test.YtbbbgoigacledaaStBk
import Derived.ProofKit
import Derived.OpenShut
import Derived.ShutString
import Derived.ChangeOld
namespace Go.Proofs.Ytbbbgoigacledaa.stringsBack
open Go.ChangeShapes Go.WideShapes Go.ChangeAt Go.RowKit
open Go.ChangeMaps (open_string shut_string)
set_option linter.unusedVariables false
set_option linter.unusedSimpArgs false
set_option maxRecDepth 100000

theorem own : ownKnob Try.prog.godebug = none := by kernel_rfl
theorem laidOut : laidOutB Try.prog = true := by kernel_rfl

theorem rd_no_data {w : World} {b : Nat} {s : Value} {L : List Nat} {p o : Nat} {l : List Nat} (h : RdAt w b s L p) (hl : l ≠ []) (hd : DataAt w b o l) : False := by
  have hc := hd.cell 0 (by cases l <;> simp_all)
  rw [cell_of_row w b _ _ _ _ h.1] at hc
  match o, hc with
  | 0, hc =>
    obtain ⟨_, h2, _⟩ := h
    rcases h2 with ⟨_, g, o, cap, cs, fr, e, _⟩ | ⟨_, a, cap, e⟩
    · subst e
      simp at hc
    · subst e
      simp at hc
  | 1, hc => simp at hc
  | o + 2, hc => simp at hc
theorem rd_sl {w w' : World} {b : Nat} {s : Value} {L : List Nat} {p : Nat} {l : List Nat} {v : Value} (h : RdAt w b s L p) (hs : SlAt w v l) (ho : Only b w w') : SlAt w' v l := by
  by_cases hl : l = []
  · rcases hs with ⟨g, o, cap, e, hd⟩ | hs
    · subst hl
      exact .inr ⟨rfl, _, _, e⟩
    · exact .inr hs
  · rcases hs with ⟨g, o, cap, e, hd⟩ | ⟨h0, _⟩
    · refine .inl ⟨g, o, cap, e, hd.keep ho ?_⟩
      rintro rfl
      exact rd_no_data h hl hd
    · exact absurd h0 hl
theorem and511 (n : Int) : bits .and .i64 n 511 = n % 512 := by
  have h7 : (BitVec.ofInt 64 511).toNat = 2 ^ 9 - 1 := by decide
  have key : (BitVec.ofInt 64 n &&& BitVec.ofInt 64 511).toNat = (n % ((2 ^ 64 : Nat) : Int)).toNat % 2 ^ 9 := by
    rw [BitVec.toNat_and, BitVec.toNat_ofInt, h7, Nat.and_two_pow_sub_one_eq_mod]
  show IntKind.i64.wrap ((BitVec.ofInt 64 n &&& BitVec.ofInt 64 511).toNat : Nat) = n % 512
  rw [key, IntKind.wrap_i64]
  omega
theorem eE_or (ok : Bool) (n : Nat) (lo hi : Int) (h1 : ¬ lBad lo hi) (h2 : sE n lo hi = 0) : eE ok n lo hi = 0 ∨ eE ok n lo hi = 4 := by
  cases ok with
  | true => exact .inl (by rw [eE_yes, h2])
  | false => exact .inr (eE_no h1)
theorem tE_or (fl : List Nat) (al : Bool) (l : List Nat) (lo hi : Int) (h1 : ¬ lBad lo hi) (h2 : sE l.length lo hi = 0) : tE fl al l lo hi = 0 ∨ tE fl al l lo hi = 1 ∨ tE fl al l lo hi = 4 := by
  unfold tE
  split
  · rcases eE_or (allOk (numOf fl (wdT fl al)) l) l.length lo hi h1 h2 with h | h
    · exact .inl h
    · exact .inr (.inr h)
  · exact .inr (.inl rfl)
set_option maxHeartbeats 16000000 in
theorem walk_gen (w : World) (k : Int) (al : Bool) (a : Option Addr) (n cap : Nat) (l : List Nat) (hsb : ∀ b, w.heap.size ≤ b → Sb w b (.slice a n cap) l) (hl : l.length = n) (hn : n ≤ 2000) (bits s fr : ByteArray) (hbs : bits.size ≤ 2000) (hss : s.size ≤ 2000) (hfr : fr.size ≤ 9223372036854775807) (more : Int) :
    Calls Try.prog 6 #[.int .i64 k, .bool al, .slice a n cap, .string bits, .string s, .string fr, .int .i64 more] w fun e w' => e = .returned (.bool true) ∧ Below w.heap.size w w' := by
  obtain ⟨nn, hnn⟩ : ∃ nn : Nat, (nn : Int) = more % 512 := ⟨(more % 512).toNat, by omega⟩
  have hn5 : nn ≤ 511 := by omega
  have ha := and511 more
  rw [← hnn] at ha
  have q1 : decide ((2000 : Int) < (n : Int)) = false := decide_eq_false (by omega)
  have q2 : decide ((2000 : Int) < (bits.size : Int)) = false := decide_eq_false (by omega)
  have q3 : decide ((2000 : Int) < (s.size : Int)) = false := decide_eq_false (by omega)
  have hb8 := sb_lt (hsb w.heap.size (Nat.le_refl _))
  have s1 : sE l.length 0 ((n : Int) + (nn : Int)) = 0 := sE_ok (by unfold lBad; omega) (by omega) (by omega)
  have s2 : sE bits.size (bits.size : Int) ((bits.size : Int) + (nn : Int)) = 0 := sE_ok (by unfold lBad; omega) (by omega) (by omega)
  have s3 : sE (cods s).length 0 (-1) = 0 := sE_ok (by unfold lBad; omega) (by omega) (by rw [cods_length]; omega)
  have o2 := eE_or (isBit (cods bits)) bits.size (bits.size : Int) ((bits.size : Int) + (nn : Int)) (by unfold lBad; omega) s2
  have o3 := tE_or (cods fr) al (cods s) 0 (-1) (by unfold lBad; omega) s3
  have HS := Lib.hid hsb
  have HL := Lib.hid hl
  clear hsb hnn
  go_enter Try.func6, Try.ntmps6
  go_wp2_with fail
  refine (stawake _).mono ?_
  rintro e w1 ⟨rfl, hb⟩
  have H1 := Lib.hid hb
  have HS1 := Lib.hid (fun b hb2 => (HS.out b hb2).below hb)
  clear hb HS
  go_wp2_with fail
  refine (stahead_ok k w1).mono ?_
  rintro e w2 ⟨b, m, hm, hmk, rfl, hbw, hw, hb⟩
  have H2 := Lib.hid (H1.out.trans (hb.mono H1.out.size))
  have HW2 := Lib.hid hw
  have hbw' : w.heap.size ≤ b := by have := H1.out.size; omega
  have HSb := Lib.hid ((HS1.out b hbw').below hb)
  have hlen : (List.replicate m true).length ≤ 64 := by rw [List.length_replicate]; omega
  clear hb hw hbw H1 hmk HS1
  generalize List.replicate m true = B0 at *
  have HP1 := Lib.hid (sputOctets_ok w2 b B0 al 0 ((n : Int) + (nn : Int)) (.slice a n cap) l HW2.out HSb.out (by omega) (by omega) (by omega) (by omega))
  rw [s1] at HP1
  obtain ⟨W1, hW1⟩ : ∃ W1, stB al false 8 B0 0 ((n : Int) + (nn : Int)) l = W1 := ⟨_, rfl⟩
  rw [hW1] at HP1
  obtain ⟨W2, hW2⟩ : ∃ W2, eB (isBit (cods bits)) al false 1 W1 (bits.size : Int) ((bits.size : Int) + (nn : Int)) (bitN (cods bits)) = W2 := ⟨_, rfl⟩
  obtain ⟨W3, hW3⟩ : ∃ W3, tB (cods fr) al (cods s) W2 0 (-1) = W3 := ⟨_, rfl⟩
  have hlW1 : W1.length ≤ 20000 := by
    rw [← hW1, stB_ok s1, List.length_append, ubits_length]
    have := stP_le al false 8 B0 l.length 0 ((n : Int) + (nn : Int)) (by omega) (by omega) (by omega)
    omega
  have hlW2 : W2.length ≤ 40000 := by
    rw [← hW2]
    unfold eB
    split
    · rw [List.length_append, ubits_length]
      have := stP_le al false 1 W1 (bitN (cods bits)).length (bits.size : Int) ((bits.size : Int) + (nn : Int)) (by rw [bitN_length, cods_length]; omega) (by omega) (by omega)
      rw [bitN_length, cods_length] at *
      omega
    · omega
  have HP2 := Lib.hid (fun (w3 : World) (h : WrAt w3 b W1) => sputBits_ok w3 b W1 al (bits.size : Int) ((bits.size : Int) + (nn : Int)) bits h (by omega) (by omega) (by omega) (by omega))
  rw [hW2] at HP2
  have HP3 := Lib.hid (fun (w3 : World) (h : WrAt w3 b W2) => sputText_ok w3 b W2 al 0 (-1) s fr h (by omega) hfr (by omega) (by omega) (by omega))
  rw [hW3] at HP3
  have HBM := Lib.hid (fun h2 h3 => back_math al B0 l bits s (cods fr) 0 ((n : Int) + (nn : Int)) (bits.size : Int) ((bits.size : Int) + (nn : Int)) 0 (-1) W1 W2 W3 (by omega) (by omega) (by omega) (by omega) (by omega) (by omega) (by omega) hbs hss hb8 s1 h2 h3 hW1 hW2 hW3)
  have HZ2 := Lib.hid (fun (h : eE (isBit (cods bits)) bits.size (bits.size : Int) ((bits.size : Int) + (nn : Int)) = 0) => (eE_zero h).1)
  have HZ3 := Lib.hid (fun (h : tE (cods fr) al (cods s) 0 (-1) = 0) => (tE_zero h))
  generalize eE (isBit (cods bits)) bits.size (bits.size : Int) ((bits.size : Int) + (nn : Int)) = er2 at *
  generalize tE (cods fr) al (cods s) 0 (-1) = er3 at *
  have O2 := Lib.hid o2
  have O3 := Lib.hid o3
  clear s1 s2 s3 hW1 hW2 hW3 hb8 o2 o3
  go_wp2_with fail
  refine (len_ok w2 b B0 HW2.out).mono ?_
  rintro e w3 ⟨rfl, rfl⟩
  go_wp2_with fail
  refine HP1.out.mono ?_
  rintro e w3 ⟨rfl, h1, h2⟩
  have H3 := Lib.hid (H2.out.trans (h2.below hbw' H2.out.size))
  have HW3 := Lib.hid h1
  have HS3 := Lib.hid (HSb.out.only h2)
  clear h1 h2 H2 HW2 HP1 HSb
  go_wp2_with fail
  refine (HP2.out w3 HW3.out).mono ?_
  rintro e w4 ⟨rfl, h1, h2⟩
  have H4 := Lib.hid (H3.out.trans (h2.below hbw' H3.out.size))
  have HW4 := Lib.hid h1
  have HS4 := Lib.hid (HS3.out.only h2)
  clear h1 h2 H3 HW3 HP2 HS3
  go_wp2_with fail
  refine (HP3.out w4 HW4.out).mono ?_
  rintro e w5 ⟨rfl, h1, h2⟩
  have H5 := Lib.hid (H4.out.trans (h2.below hbw' H4.out.size))
  have HW5 := Lib.hid h1
  have HS5 := Lib.hid (HS4.out.only h2).sl
  clear h1 h2 H4 HW4 HP3 HS4
  by_cases hgood : er2 = 0 ∧ er3 = 0
  · obtain ⟨rfl, rfl⟩ := hgood
    obtain ⟨⟨m1, L1⟩, ⟨m2, L2⟩, ⟨m3, L3⟩, ⟨S, hS⟩, b1, b2, b3⟩ := HBM.out rfl rfl
    obtain ⟨gA, gO, _⟩ := HZ3.out rfl
    have gB := HZ2.out rfl
    have hB0 : gerr (wb W3) 0 B0.length = 0 ∧ gpos (wb W3) 0 B0.length = B0.length := by
      obtain ⟨g1, g2, g3⟩ := get_has (Has.wb (W := W3) (A := []) (S := B0) (R := S) (by rw [hS]; rfl)) 0 B0.length rfl rfl hlen
      exact ⟨g1, by rw [g3]; omega⟩
    have hLl : (wb W3).length ≤ 1000000 := wb_le (by omega) (by omega)
    have HG1 := Lib.hid (fun (w6 : World) (r : Nat) (v : Value) (h : RdAt w6 r v (wb W3) B0.length) => sgetOctets_ok w6 r v (wb W3) B0.length al 0 ((n : Int) + (nn : Int)) h hLl (by omega) (by omega) L1)
    rw [m1] at HG1
    have HG2 := Lib.hid (fun (w6 : World) (r : Nat) (v : Value) (h : RdAt w6 r v (wb W3) W1.length) => sgetBits_ok w6 r v (wb W3) W1.length al (bits.size : Int) ((bits.size : Int) + (nn : Int)) h hLl (by omega) (by omega) L2)
    rw [m2, show bitS ⟨0, bitN (cods bits), W2.length⟩ = bits from (if_pos rfl).trans (bits_text gB)] at HG2
    obtain ⟨t1, t2⟩ := text_text (al := al) gA gO
    have HG3 := Lib.hid (fun (w6 : World) (r : Nat) (v : Value) (h : RdAt w6 r v (wb W3) W2.length) => sgetText_ok w6 r v (wb W3) W2.length al fr 0 (-1) h hfr gA (by unfold lBad; omega) hLl (by omega) (by omega) (wdT (cods fr) al) rfl _ rfl _ m3 L3)
    rw [show txtS (fun u => chOf (cods fr) (wdT (cods fr) al) u) ⟨0, numN (numOf (cods fr) (wdT (cods fr) al)) (cods s), W3.length⟩ = s from (if_pos ⟨rfl, t1⟩).trans t2, show txtE (fun u => chOf (cods fr) (wdT (cods fr) al) u) ⟨0, numN (numOf (cods fr) (wdT (cods fr) al)) (cods s), W3.length⟩ = 0 from (if_pos rfl).trans (if_pos t1)] at HG3
    simp only at HG1 HG2 HG3
    have hW3l : W3.length ≤ 100000 := by omega
    clear m1 m2 m3 L1 L2 L3 hS HBM HZ2 HZ3 O2 O3 t1 t2 gA gB gO b1 b2 b3
    have HB0 := Lib.hid hB0
    clear hB0
    go_wp2_with fail
    refine (wbytes_any w5 b W3 HW5.out (by omega)).mono ?_
    rintro e w6 ⟨rfl, hr, hb⟩
    have HS6 := Lib.hid (sl_of_row hr (wb_lt W3) rfl)
    have HX6 := Lib.hid (HS5.out.below hb)
    have HW6 := Lib.hid (HW5.out.below hb)
    have H6 := Lib.hid (H5.out.trans (hb.mono H5.out.size))
    clear hr hb HW5 HS5 H5
    generalize wb W3 = L at *
    go_wp2_with fail
    refine (new_ok w6 _ L HS6.out (by omega)).mono ?_
    rintro e w7 ⟨v, r, rfl, hr1, hrd1, hb1⟩
    have HW7 := Lib.hid (HW6.out.below hb1)
    have HX7 := Lib.hid (HX6.out.below hb1)
    have H7 := Lib.hid (H6.out.trans (hb1.mono H6.out.size))
    have HR7 := Lib.hid hrd1
    have hbr : b ≠ r := by have := HW6.out.lt; omega
    have hrw : w.heap.size ≤ r := by have := H6.out.size; omega
    clear hr1 hrd1 hb1 HW6 HX6 H6 HS6
    go_wp2_with fail
    have HG := get_any w7 r L 0 B0.length HR7.out (by omega)
    rw [HB0.out.2] at HG
    refine HG.mono ?_
    rintro e w8 ⟨rfl, h1, h2⟩
    have HR8 := Lib.hid h1
    have HW8 := Lib.hid (HW7.out.keep h2 hbr (HR7.out.no_wr _))
    have HX8 := Lib.hid (rd_sl HR7.out HX7.out h2)
    have H8 := Lib.hid (H7.out.trans (h2.below hrw H7.out.size))
    clear h1 h2 HR7 HW7 HX7 H7 HG HB0
    generalize gval L 0 B0.length = gv at *
    generalize gerr L 0 B0.length = gr at *
    go_wp2_with fail
    refine (HG1.out w8 r v HR8.out).mono ?_
    rintro e w9 ⟨v1, rfl, h0, h1, h2⟩
    have HR9 := Lib.hid h1
    have HV9 := Lib.hid h0.sl
    have HW9 := Lib.hid (HW8.out.keep h2 hbr (HR8.out.no_wr _))
    have HX9 := Lib.hid (rd_sl HR8.out HX8.out h2)
    have H9 := Lib.hid (H8.out.trans (h2.below hrw H8.out.size))
    clear h0 h1 h2 HR8 HW8 HX8 H8 HG1
    go_wp2_with fail
    refine (HG2.out w9 r v HR9.out).mono ?_
    rintro e w10 ⟨rfl, h1, h2⟩
    have HR10 := Lib.hid h1
    have HV10 := Lib.hid (rd_sl HR9.out HV9.out h2)
    have HW10 := Lib.hid (HW9.out.keep h2 hbr (HR9.out.no_wr _))
    have HX10 := Lib.hid (rd_sl HR9.out HX9.out h2)
    have H10 := Lib.hid (H9.out.trans (h2.below hrw H9.out.size))
    clear h1 h2 HR9 HW9 HX9 HV9 H9 HG2
    go_wp2_with fail
    refine (HG3.out w10 r v HR10.out).mono ?_
    rintro e w11 ⟨rfl, h1, h2⟩
    have HR11 := Lib.hid h1
    have HV11 := Lib.hid (rd_sl HR10.out HV10.out h2)
    have HW11 := Lib.hid (HW10.out.keep h2 hbr (HR10.out.no_wr _))
    have HX11 := Lib.hid (rd_sl HR10.out HX10.out h2)
    have H11 := Lib.hid (H10.out.trans (h2.below hrw H10.out.size))
    clear h1 h2 HR10 HW10 HX10 HV10 H10 HG3
    go_wp2_with fail
    refine (stsame_yes w11 _ _ l HV11.out HX11.out).mono ?_
    rintro e w12 ⟨rfl, rfl⟩
    go_wp2_with fail
    refine (pos_ok w11 r L _ HR11.out).mono ?_
    rintro e w12 ⟨rfl, rfl⟩
    go_wp2_with fail
    refine (len_ok w11 b _ HW11.out).mono ?_
    rintro e w12 ⟨rfl, rfl⟩
    go_wp2_with fail
    go_ret
    exact ⟨rfl, H11.out⟩
  · rcases O2.out with rfl | rfl
    · rcases O3.out with rfl | rfl | rfl
      · exact absurd ⟨rfl, rfl⟩ hgood
      · clear hgood HBM HZ2 HZ3 O2 O3
        go_wp2_with fail
        go_ret
        exact ⟨rfl, H5.out⟩
      · clear hgood HBM HZ2 HZ3 O2 O3
        go_wp2_with fail
        go_ret
        exact ⟨rfl, H5.out⟩
    · rcases O3.out with rfl | rfl | rfl
      all_goals
        clear hgood HBM HZ2 HZ3 O2 O3
        go_wp2_with fail
        go_ret
        exact ⟨rfl, H5.out⟩
theorem walk_big (w : World) (k : Int) (al : Bool) (a : Option Addr) (n cap : Nat) (bits s fr : ByteArray) (h : 2000 < n ∨ 2000 < bits.size ∨ 2000 < s.size) (more : Int) :
    Calls Try.prog 6 #[.int .i64 k, .bool al, .slice a n cap, .string bits, .string s, .string fr, .int .i64 more] w fun e w' => e = .returned (.bool true) ∧ Below w.heap.size w w' := by
  by_cases h1 : 2000 < n
  · have q1 : decide ((2000 : Int) < (n : Int)) = true := decide_eq_true (by omega)
    clear h h1
    go_enter Try.func6, Try.ntmps6
    go_wp2_with fail
    refine (stawake _).mono ?_
    rintro e w1 ⟨rfl, hb⟩
    have H1 := Lib.hid hb
    clear hb
    go_wp2_with fail
    go_ret
    exact ⟨rfl, H1.out⟩
  have q1 : decide ((2000 : Int) < (n : Int)) = false := decide_eq_false (by omega)
  by_cases h2 : 2000 < bits.size
  · have q2 : decide ((2000 : Int) < (bits.size : Int)) = true := decide_eq_true (by omega)
    clear h h1 h2
    go_enter Try.func6, Try.ntmps6
    go_wp2_with fail
    refine (stawake _).mono ?_
    rintro e w1 ⟨rfl, hb⟩
    have H1 := Lib.hid hb
    clear hb
    go_wp2_with fail
    go_ret
    exact ⟨rfl, H1.out⟩
  · have q2 : decide ((2000 : Int) < (bits.size : Int)) = false := decide_eq_false (by omega)
    have q3 : decide ((2000 : Int) < (s.size : Int)) = true := decide_eq_true (by omega)
    clear h h1 h2
    go_enter Try.func6, Try.ntmps6
    go_wp2_with fail
    refine (stawake _).mono ?_
    rintro e w1 ⟨rfl, hb⟩
    have H1 := Lib.hid hb
    clear hb
    go_wp2_with fail
    go_ret
    exact ⟨rfl, H1.out⟩
theorem walk (w : World) (k : Int) (w0 : (Lit.int .i64 k).wf = true) (al : Bool) (a : Option Addr) (len cap : Nat) (z : List Int) (hz : IsRow .u8 w a len cap z) (bits : ByteArray) (w3 : bits.size ≤ maxLen) (s : ByteArray) (w4 : s.size ≤ maxLen) (fr : ByteArray) (w5 : fr.size ≤ maxLen) (more : Int) (w6 : (Lit.int .i64 more).wf = true) :
    Calls Try.prog 6 #[.int .i64 k, .bool al, .slice a len cap, .string bits, .string s, .string fr, .int .i64 more] w fun e w' => e = .returned (.bool true) ∧ Below w.heap.size w w' := by
  by_cases h : 2000 < len ∨ 2000 < bits.size ∨ 2000 < s.size
  · exact walk_big w k al a len cap bits s fr h more
  · obtain ⟨l, h1, h2⟩ := sb_of_isRow hz
    exact walk_gen w k al a len cap l h1 h2 (by omega) bits s fr (by omega) (by omega) (by unfold maxLen at w5; omega) more

set_option maxRecDepth 100000 in
theorem lifted (os : Os) (started : os.Started) (H : Type) (enc : TypeId × Value → H) :
    ReturnsInHanded {} Try.checked os 6 .any (Rows.stringsBackSpec.pre6 enc Try.prog Try.f6 Rows.stringsBackRow.domain false) (Rows.stringsBackSpec.post enc Try.prog Try.f6 false true false false) := by
  refine returnsInHanded_of_change (C := Try.checked) own started (by kernel_rfl) Try.func6
    (ChangeSpec.witness6 (enc := enc) (C := Try.checked) false ⟨#[], #[.int .i64 0, .bool false, .slice none 0 0, .string ByteArray.empty, .string ByteArray.empty, .string ByteArray.empty, .int .i64 0], []⟩ 8 (by kernel_rfl) (by kernel_rfl) (by kernel_rfl) (by kernel_rfl)) ?_
  intro W base args ds gs before hval0 hW hcnd _
  have hval : ∀ (j : Nat) t v, Try.f6.params[j]? = some t → args[j]? = some v → Value.okWide Try.prog W .any base t v := hval0
  have hW' := hW
  obtain ⟨p, q, hA0, hV, rfl, hfz, hnd⟩ := hW
  have hA : DataW.TrodAll enc Try.prog W 0 (fun _ => true) true Try.f6.params.toList args.toList ds p := hA0
  rw [Try.params6] at hA hval
  obtain ⟨v0, vs0, d0, ds0, p0, q0, hargs, rfl, rfl, h0, r0⟩ := trodAll_cons hA
  obtain ⟨v1, vs1, d1, ds1, p1, q1, rfl, rfl, rfl, h1, r1⟩ := trodAll_cons r0
  obtain ⟨v2, vs2, d2, ds2, p2, q2, rfl, rfl, rfl, h2, r2⟩ := trodAll_cons r1
  obtain ⟨v3, vs3, d3, ds3, p3, q3, rfl, rfl, rfl, h3, r3⟩ := trodAll_cons r2
  obtain ⟨v4, vs4, d4, ds4, p4, q4, rfl, rfl, rfl, h4, r4⟩ := trodAll_cons r3
  obtain ⟨v5, vs5, d5, ds5, p5, q5, rfl, rfl, rfl, h5, r5⟩ := trodAll_cons r4
  obtain ⟨v6, vs6, d6, ds6, p6, q6, rfl, rfl, rfl, h6, r6⟩ := trodAll_cons r5
  obtain ⟨rfl, rfl, rfl⟩ := trodAll_nil r6
  obtain rfl : args = #[v0, v1, v2, v3, v4, v5, v6] := by cases args; simp_all
  obtain ⟨rfl, rfl⟩ := trodVars_none hV
  obtain ⟨a0, rfl, rfl, rfl, w0⟩ := open_int Try.underlying3 (hval 0 3 v0 rfl rfl) h0
  obtain ⟨a1, rfl, rfl, rfl⟩ := open_bool Try.underlying4 (hval 1 4 v1 rfl rfl) h1
  obtain ⟨a2, len2, cap2, rfl⟩ := okWide_slice Try.underlying22 (hval 2 22 v2 rfl rfl)
  have k2 := h2
  have lt2 : ∀ x ∈ p2, x.block < W.heap.size := by obtain ⟨m, hm⟩ := k2; exact DataW.trod_lt m _ _ _ hm
  obtain ⟨z2, w2⟩ : ∃ zs, IsRow .u8 W a2 len2 cap2 zs := by
    obtain ⟨fuel, hf⟩ := h2
    rcases open_ints Try.underlying22 Try.underlying5 (by kernel_rfl) hf with ⟨hcs, _⟩ | ⟨x, l, c, zs, hcs, _, hl, hm, hz, _, hcell, hwz⟩
    · simp [Value.cells] at hcs
      obtain ⟨rfl, rfl, rfl⟩ := hcs
      exact ⟨[], .inl ⟨rfl, rfl, rfl, rfl⟩⟩
    · simp [Value.cells] at hcs
      obtain ⟨rfl, rfl, rfl⟩ := hcs
      exact ⟨zs, .inr ⟨_, rfl, hl, hm, by simpa using hz, hcell, hwz⟩⟩
  obtain ⟨a3, rfl, rfl, rfl, w3⟩ := open_string Try.underlying9 (hval 3 9 v3 rfl rfl) h3
  obtain ⟨a4, rfl, rfl, rfl, w4⟩ := open_string Try.underlying9 (hval 4 9 v4 rfl rfl) h4
  obtain ⟨a5, rfl, rfl, rfl, w5⟩ := open_string Try.underlying9 (hval 5 9 v5 rfl rfl) h5
  obtain ⟨a6, rfl, rfl, rfl, w6⟩ := open_int Try.underlying3 (hval 6 3 v6 rfl rfl) h6
  clear hA0 hval0
  refine (walk W a0 w0 a1 a2 len2 cap2 z2 w2 a3 w3 a4 w4 a5 w5 a6 w6).mono fun e W' ⟨he, bel⟩ => ?_
  subst he
  exact ⟨_, rfl, _, _, _, [], _, [], hW', trodAll_mk1 (shut_bool Try.underlying4 _), (trodAll_cons_mk (shut_int Try.underlying3 w0) (trodAll_cons_mk (shut_bool Try.underlying4 a1) (trodAll_cons_mk (Below.trod laidOut (by kernel_rfl) (of_decide_eq_true (by kernel_rfl)) k2 bel lt2) (trodAll_cons_mk (shut_string Try.underlying9 w3) (trodAll_cons_mk (shut_string Try.underlying9 w4) (trodAll_cons_mk (shut_string Try.underlying9 w5) (trodAll_cons_mk (shut_int Try.underlying3 w6) trodAll_mk0))))))), rfl, bel.frame _, fun h => by cases h⟩

theorem over : Rows.stringsBackRow.holds Try.pinned (OpenSpec.ofChange Rows.stringsBackSpec) :=
  OpenClaim.holds_of_wide 6 Try.f6 rfl rfl rfl rfl rfl rfl rfl ⟨rfl, rfl, rfl, rfl, rfl⟩ rfl rfl rfl rfl rfl (by kernel_rfl) Try.func6 (by kernel_rfl)
    (of_decide_eq_true (by kernel_rfl)) (by unfold Func.isWrapper; first | (rw [if_pos (by decide +kernel)]; kernel_rfl) | (rw [if_neg (by decide +kernel)]; exact ⟨rfl, rfl⟩))
    (fun os started H enc _ => lifted os started H enc)

theorem proved : Rows.StringsBackSaid := over
end Go.Proofs.Ytbbbgoigacledaa.stringsBack
