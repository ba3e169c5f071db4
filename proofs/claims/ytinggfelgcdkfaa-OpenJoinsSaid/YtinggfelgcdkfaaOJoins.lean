/-
  Proved: the statement OpenJoins (octets that are put one behind the other are got so; what is cut off ahead of their end is not got), for every input; no further condition.
-/
import Derived.Test.YtinggfelgcdkfaaRows
import Derived.Test.YtinggfelgcdkfaaOpLaw
import Derived.ProofKit
import Derived.OpenShut
import Derived.ShutString
import Derived.ChangeOld
namespace Go.Proofs.Ytinggfelgcdkfaa.openJoins
open Go.ChangeShapes Go.WideShapes Go.ChangeAt Go.RowKit
open Go.ChangeMaps (open_string shut_string)
set_option linter.unusedVariables false
set_option linter.unusedSimpArgs false
set_option maxRecDepth 100000

theorem own : ownKnob Try.prog.godebug = none := by kernel_rfl
theorem laidOut : laidOutB Try.prog = true := by kernel_rfl

theorem take_sl {w : World} {g k cap : Nat} {l : List Nat} (h : DataAt w g 0 l) (hk : k ≤ l.length) : SlAt w (.slice (some ⟨g, 0, none⟩) k cap) (l.take k) := by
  have hl := take_len hk
  refine .inl ⟨g, 0, cap, by rw [hl], ⟨fun i hi => ?_, fun i => getD_take h.byte k i⟩⟩
  rw [hl] at hi
  rw [h.cell i (by omega), List.getD_eq_getElem?_getD, List.getD_eq_getElem?_getD, List.getElem?_take, if_pos hi]
theorem lead_even {al : Bool} {A : List Bool} (h : A.length % 8 = 0) : lead al A = A := by
  cases al
  · rfl
  · rw [lead_true, padded_gap]
    unfold gapN
    rw [h]
    simp
theorem item_even {al : Bool} {A : List Bool} (h : A.length % 8 = 0) (l : List Nat) : itemB al A l = A ++ (formB l.length ++ bitsOf l) ∧ (itemB al A l).length % 8 = 0 ∧ (itemB al A l).length ≤ A.length + 16 + 8 * l.length ∧ A.length + 8 ≤ (itemB al A l).length := by
  have h1 : itemB al A l = A ++ (formB l.length ++ bitsOf l) := by
    unfold itemB putF
    rw [lead_even h, List.append_assoc]
  have h2 := formB_len l.length
  refine ⟨h1, ?_, ?_, ?_⟩
  all_goals rw [h1, List.length_append, List.length_append, bitsOf_length]
  all_goals omega
theorem rlF_even {al : Bool} {L : List Nat} {p : Nat} (h : p % 8 = 0) : rlF al L p = rlPl L p := by
  unfold rlF
  cases al
  · rfl
  · obtain ⟨h1, h2⟩ := align_at (L := L) h
    rw [if_pos rfl, h1, if_pos rfl, h2]
theorem rdOpen_err {al : Bool} {L : List Nat} {p : Nat} (h : (rlF al L p).e = 2) : (rdOpen al L p).e = 2 := by
  unfold rdOpen roGo
  rw [if_pos (by rw [h]; decide), h]
theorem rdOpen_two {al : Bool} {L : List Nat} {p c q : Nat} (h : rlF al L p = ⟨0, c, false, q⟩) (hc : c ≤ 1048576) (ho : oerr L q c = 2) : (rdOpen al L p).e = 2 := by
  unfold rdOpen roGo
  rw [h, if_neg (by simp), if_neg (by simp), if_neg (by simp; omega), if_pos (by simp only; rw [ho]; decide)]
  exact ho
/-- cut off within a piece -/
theorem short_open {al : Bool} {M : List Nat} {A : List Bool} {l : List Nat} (hA : A.length % 8 = 0) (hl : l.length < 16384) (hM : ∃ T, bitsOf M ++ T = itemB al A l) (h1 : A.length ≤ 8 * M.length) (h2 : 8 * M.length < (itemB al A l).length) : (rdOpen al M A.length).e = 2 := by
  obtain ⟨e1, e2, e3, e4⟩ := item_even (al := al) hA l
  obtain ⟨T, hT⟩ := hM
  rw [e1] at hT
  rw [e1, List.length_append, List.length_append, bitsOf_length] at h2
  have hbl := bitsOf_length M
  have hpre : ∀ S R, formB l.length ++ bitsOf l = S ++ R → A.length + S.length ≤ 8 * M.length → Has M A S := by
    intro S R hS hle
    have hT2 : bitsOf M ++ T = (A ++ S) ++ R := by rw [hT, hS, List.append_assoc]
    have := congrArg (List.take (bitsOf M).length) hT2
    rw [List.take_left, hbl] at this
    rw [List.take_append, List.take_of_length_le (by rw [List.length_append]; omega)] at this
    exact ⟨_, this⟩
  have hrl := rlF_even (al := al) (L := M) hA
  by_cases h3 : A.length + (formB l.length).length ≤ 8 * M.length
  · have h4 := form_has (hpre (formB l.length) (bitsOf l) rfl h3) A.length rfl (.inl hl)
    rw [decide_eq_false (by omega)] at h4
    exact rdOpen_two (hrl.trans h4) (by omega) (octs_short_e h3 (by omega))
  · apply rdOpen_err
    rw [hrl]
    unfold rlPl
    by_cases h5 : 8 * M.length < A.length + 8
    · have := get_short_e (L := M) (p := A.length) (k := 8) (by omega) h5
      have : gerr M A.length 8 = 2 := this
      rw [if_neg (by rw [this]; decide)]
      exact this
    · have hf := formB_len l.length
      by_cases h6 : l.length < 128
      · rw [formB_one h6, nb_length] at h3
        omega
      · have hs : formB l.length = nb (128 + l.length / 256) 8 ++ nb (l.length % 256) 8 := by
          rw [formB_two (by omega) hl, nb_split (32768 + l.length) 16 8 (by omega), ← nb_mod (32768 + l.length) 8]
          have h1 : (32768 + l.length) >>> 8 = 128 + l.length / 256 := by rw [Nat.shiftRight_eq_div_pow]; omega
          have h2 : (32768 + l.length) % 2 ^ 8 = l.length % 256 := by omega
          rw [h1, h2]
        obtain ⟨g1, g2, g3⟩ := octet_has (hpre (nb (128 + l.length / 256) 8) (nb (l.length % 256) 8 ++ bitsOf l) (by rw [hs, List.append_assoc]) (by rw [nb_length]; omega)) A.length rfl (by omega)
        rw [g1, if_pos rfl, g2, g3]
        unfold rlOct
        rw [if_neg (by omega), if_pos (by omega)]
        unfold rlSec
        have h7 : gerr M (A.length + 8) 8 = 2 := get_short_e (L := M) (p := A.length + 8) (k := 8) (by omega) (by omega)
        rw [if_neg (by rw [h7]; decide)]
        exact h7
theorem bitsOf_take (L : List Nat) (k : Nat) : ∃ T, bitsOf (L.take k) ++ T = bitsOf L := ⟨bitsOf (L.drop k), by
  unfold bitsOf
  rw [← List.flatMap_append, List.take_append_drop]⟩
theorem joins_math (al : Bool) (la lb : List Nat) (ha : la.length ≤ 1000) (hb : lb.length ≤ 1000) (ba : ∀ i, la.getD i 0 < 256) (bb : ∀ i, lb.getD i 0 < 256) (W1 W2 : List Bool) (h1 : opB al [] la = W1) (h2 : opB al W1 lb = W2) :
    rdOpen al (wb W2) 0 = ⟨0, la, W1.length⟩ ∧ rdOpen al (wb W2) W1.length = ⟨0, lb, W2.length⟩ ∧ 1 ≤ (wb W2).length ∧ (wb W2).length ≤ 3000 ∧ W2.length ≤ 24000 ∧
      ∀ k, k < (wb W2).length → (rdOpen al ((wb W2).take k) 0).e = 2 ∨ (rdOpen al ((wb W2).take k) (rdOpen al ((wb W2).take k) 0).p).e = 2 := by
  have g1 : itemB al [] la = W1 := by rw [← opB_last (by omega)]; exact h1
  have g2 : itemB al W1 lb = W2 := by rw [← opB_last (by omega)]; exact h2
  obtain ⟨i1, i2, i3, i4⟩ := item_even (al := al) (A := []) rfl la
  rw [g1] at i1 i2 i3 i4
  obtain ⟨j1, j2, j3, j4⟩ := item_even (al := al) i2 lb
  rw [g2] at j1 j2 j3 j4
  simp only [List.length_nil, Nat.zero_add] at i3 i4
  have hne : W2 ≠ [] := by rintro rfl; simp at j4
  obtain ⟨m, hm, _, hm8⟩ := wb_bits W2
  have hm8 := hm8 hne
  have hlen := wb_length W2 m hm
  obtain rfl : m = 0 := by omega
  simp only [List.replicate_zero, List.append_nil] at hm
  refine ⟨?_, ?_, by omega, by omega, by omega, fun k hk => ?_⟩
  · have := rdOpen_back al (wb W2) [] la ⟨formB lb.length ++ bitsOf lb, by rw [h1, hm, j1]⟩ ba (by omega)
    rw [h1] at this
    exact this
  · have := rdOpen_back al (wb W2) W1 lb ⟨[], by rw [h2, hm, List.append_nil]⟩ bb (by omega)
    rw [h2] at this
    exact this
  · have htl := take_len (Nat.le_of_lt hk)
    obtain ⟨T, hT⟩ := bitsOf_take (wb W2) k
    rw [hm] at hT
    generalize (wb W2).take k = M at *
    have hT2 := hT.trans j1
    have hbl := bitsOf_length M
    by_cases hc : 8 * k < W1.length
    · refine .inl ?_
      have := short_open (al := al) (M := M) (A := []) (l := la) rfl (by omega) ?_ (by simp) (by rw [g1, htl]; exact hc)
      · exact this
      · have h9 := congrArg (List.take W1.length) hT2
        rw [List.take_left, List.take_append, List.take_of_length_le (by omega)] at h9
        rw [g1]
        exact ⟨_, h9⟩
    · refine .inr ?_
      have hpre : ∃ T, bitsOf M = opB al [] la ++ T := by
        have h9 := congrArg (List.take (bitsOf M).length) hT2
        rw [List.take_left, List.take_append, List.take_of_length_le (l := W1) (by omega)] at h9
        rw [h1]
        exact ⟨_, h9⟩
      have h10 := rdOpen_back al M [] la hpre ba (by omega)
      rw [h1] at h10
      have h10 : rdOpen al M 0 = ⟨0, la, W1.length⟩ := h10
      rw [h10]
      exact short_open (l := lb) i2 (by omega) ⟨T, by rw [g2]; exact hT⟩ (by rw [htl]; omega) (by rw [g2, htl]; omega)
theorem rd_no_data {w : World} {b : Nat} {s : Value} {L : List Nat} {p o : Nat} {l : List Nat} (h : RdAt w b s L p) (hl : l ≠ []) (hd : DataAt w b o l) : False := by
  have hc := hd.cell 0 (by cases l <;> simp_all)
  rw [cell_of_row w b _ _ _ _ h.1] at hc
  match o, hc with
  | 0, hc =>
    obtain ⟨_, h2, _⟩ := h
    rcases h2 with ⟨_, g, o, cap, cs, fr, e, _⟩ | ⟨_, a, cap, e⟩
    · subst e
      simp at hc
    · subst e
      simp at hc
  | 1, hc => simp at hc
  | o + 2, hc => simp at hc
theorem rd_sl {w w' : World} {b : Nat} {s : Value} {L : List Nat} {p : Nat} {l : List Nat} {v : Value} (h : RdAt w b s L p) (hs : SlAt w v l) (ho : Only b w w') : SlAt w' v l := by
  by_cases hl : l = []
  · rcases hs with ⟨g, o, cap, e, hd⟩ | hs
    · subst hl
      exact .inr ⟨rfl, _, _, e⟩
    · exact .inr hs
  · rcases hs with ⟨g, o, cap, e, hd⟩ | ⟨h0, _⟩
    · refine .inl ⟨g, o, cap, e, hd.keep ho ?_⟩
      rintro rfl
      exact rd_no_data h hl hd
    · exact absurd h0 hl
set_option maxHeartbeats 1000000 in
theorem walk_out (w : World) (al : Bool) (a1 : Option Addr) (len1 cap1 : Nat) (a2 : Option Addr) (len2 cap2 : Nat) (cut : Int) (h : 1000 < len1 ∨ 1000 < len2) :
    Calls Try.prog 8 #[.bool al, .slice a1 len1 cap1, .slice a2 len2 cap2, .int .i64 cut] w fun e w' => e = .returned (.bool true) ∧ Below w.heap.size w w' := by
  have hq : decide ((1000 : Int) < (len1 : Int)) = true ∨ (decide ((1000 : Int) < (len1 : Int)) = false ∧ decide ((1000 : Int) < (len2 : Int)) = true) := by
    by_cases h1 : 1000 < len1
    · exact .inl (decide_eq_true (by omega))
    · exact .inr ⟨decide_eq_false (by omega), decide_eq_true (by omega)⟩
  clear h
  rcases hq with q1 | ⟨q1, q2⟩
  all_goals
    go_enter Try.func8, Try.ntmps8
    go_wp2_with fail
    refine (opawake _).mono ?_
    rintro e wa ⟨rfl, hb⟩
    have HB := Lib.hid hb
    clear hb
    go_wp2_with fail
    go_ret
    exact ⟨rfl, HB.out⟩
set_option maxHeartbeats 16000000 in
theorem walk_main (w : World) (al : Bool) (a1 : Option Addr) (len1 cap1 : Nat) (la : List Nat) (hsa : ∀ b, w.heap.size ≤ b → Sb w b (.slice a1 len1 cap1) la) (a2 : Option Addr) (len2 cap2 : Nat) (lb : List Nat) (hsb : ∀ b, w.heap.size ≤ b → Sb w b (.slice a2 len2 cap2) lb) (cut : Int) (h1 : len1 ≤ 1000) (h2 : len2 ≤ 1000) :
    Calls Try.prog 8 #[.bool al, .slice a1 len1 cap1, .slice a2 len2 cap2, .int .i64 cut] w fun e w' => e = .returned (.bool true) ∧ Below w.heap.size w w' := by
  have hla := (hsa _ (Nat.le_refl _)).len
  have hlb := (hsb _ (Nat.le_refl _)).len
  obtain ⟨W1, hW1⟩ : ∃ W1, opB al [] la = W1 := ⟨_, rfl⟩
  obtain ⟨W2, hW2⟩ : ∃ W2, opB al W1 lb = W2 := ⟨_, rfl⟩
  obtain ⟨r1, r2, hl1, hl2, hw2, hcut⟩ := joins_math al la lb (by omega) (by omega) (sb_lt (hsa _ (Nat.le_refl _))) (sb_lt (hsb _ (Nat.le_refl _))) W1 W2 hW1 hW2
  have hw1 : W1.length ≤ 24000 := by
    obtain ⟨S, hS⟩ := opB_pre al W1 lb
    rw [hW2] at hS
    have := congrArg List.length hS
    rw [List.length_append] at this
    omega
  have HPA := Lib.hid (fun w' b (hb : Below w.heap.size w w') (hbw : w.heap.size ≤ b) h => oput_any w' b [] al _ la h ((hsa b hbw).below hb) (by simp; omega) (by omega))
  have HPB := Lib.hid (fun w' b (hb : Below w.heap.size w w') (hbw : w.heap.size ≤ b) h => oput_any w' b W1 al _ lb h ((hsb b hbw).below hb) (by omega) (by omega))
  rw [hW1] at HPA
  rw [hW2] at HPB
  have HSA := Lib.hid (fun w' (hb : Below w.heap.size w w') => ((hsa _ (Nat.le_refl _)).below hb).sl)
  have HSB := Lib.hid (fun w' (hb : Below w.heap.size w w') => ((hsb _ (Nat.le_refl _)).below hb).sl)
  have HGA := Lib.hid (fun w' r s h => oget_open w' r s (wb W2) 0 al h (by omega))
  have HGB := Lib.hid (fun w' r s h => oget_open w' r s (wb W2) W1.length al h (by omega))
  rw [r1] at HGA
  rw [r2] at HGB
  have hend := endB_wb W2
  have hlt := wb_lt W2
  have q1 : decide ((1000 : Int) < (len1 : Int)) = false := decide_eq_false (by omega)
  have q2 : decide ((1000 : Int) < (len2 : Int)) = false := decide_eq_false (by omega)
  obtain ⟨c, hc⟩ : ∃ c : Nat, (c : Int) = cut % 65536 := ⟨(cut % 65536).toNat, by omega⟩
  have hand := op_and65535 cut
  rw [← hc] at hand
  obtain ⟨k, hk⟩ : ∃ k, c % (wb W2).length = k := ⟨_, rfl⟩
  have hkl : k < (wb W2).length := by rw [← hk]; exact Nat.mod_lt _ (by omega)
  have hck := hcut k hkl
  have HGC := Lib.hid (fun w' r s p h => oget_open w' r s ((wb W2).take k) p al h (by rw [List.length_take]; omega))
  have q3 : (((wb W2).length : Int) == 0) = false := beq_eq_false_iff_ne.2 (by omega)
  have HEND := Lib.hid (fun w' r (s : Value) h => end_ok w' r (s := s) (wb W2) W2.length h (by omega))
  rw [hend, if_pos rfl] at HEND
  clear hsa hsb hla hlb h1 h2 hW1 hW2 r1 r2 hcut hend hc
  go_enter Try.func8, Try.ntmps8
  go_wp2_with fail
  refine (opawake _).mono ?_
  rintro e wa ⟨rfl, hb⟩
  have HB := Lib.hid hb
  clear hb
  go_wp2_with (refine wpList_box_writer rfl rfl rfl 33 rfl rfl (by kernel_rfl) ?_; intro w1 hw1 hb1 hs1; have HW1 := Lib.hid hw1; have HB1 := Lib.hid hb1; have HS1 := Lib.hid hs1; clear hw1 hb1 hs1)
  have hs := HB.out.size
  have HB2 := Lib.hid (HB.out.trans (HB1.out.mono hs))
  clear HB HB1 HS1
  generalize wa.heap.size = b at *
  refine (HPA.out w1 b HB2.out hs HW1.out).mono ?_
  rintro e w3 ⟨rfl, h1, h2⟩
  have HW3 := Lib.hid h1
  have HB3 := Lib.hid (HB2.out.trans (h2.below hs HB2.out.size))
  clear h1 h2 HPA HW1 HB2
  go_wp2_with fail
  refine (HPB.out w3 b HB3.out hs HW3.out).mono ?_
  rintro e w4 ⟨rfl, h1, h2⟩
  have HW4 := Lib.hid h1
  have HB4 := Lib.hid (HB3.out.trans (h2.below hs HB3.out.size))
  clear h1 h2 HPB HW3 HB3
  go_wp2_with fail
  have HWB := Lib.hid (fun w' h => wbytes_any w' b W2 h (by omega))
  refine (HWB.out w4 HW4.out).mono ?_
  rintro e w5 ⟨rfl, hr, hb⟩
  have HS := Lib.hid (sl_of_row hr hlt rfl)
  have HW5 := Lib.hid (HW4.out.below hb)
  have HB5 := Lib.hid (HB4.out.trans (hb.mono HB4.out.size))
  clear hr hb HW4 HB4
  generalize wb W2 = L at *
  obtain ⟨len, hlen⟩ : ∃ len, L.length = len := ⟨_, rfl⟩
  rw [hlen] at hk hkl hl1 hl2 q3 HWB HS ⊢
  have HLen := Lib.hid hlen
  clear hlen
  go_wp2_with fail
  refine (new_ok w5 _ L HS.out (by have := HLen.out; omega)).mono ?_
  rintro e w6 ⟨s, r, rfl, hr1, hrd1, hb1⟩
  have HW6 := Lib.hid (HW5.out.below hb1)
  have HB6 := Lib.hid (HB5.out.trans (hb1.mono HB5.out.size))
  have HR6 := Lib.hid hrd1
  have hbr : b ≠ r := by have := HW5.out.lt; omega
  have hrw : w.heap.size ≤ r := by have := HB5.out.size; omega
  clear hr1 hrd1 hb1 HW5 HB5 HS
  go_wp2_with fail
  refine (HGA.out w6 r s HR6.out).mono ?_
  rintro e w7 ⟨vx, rfl, h1, h2, h3⟩
  have HX := Lib.hid h1
  have HR7 := Lib.hid h2
  have HW7 := Lib.hid (HW6.out.keep h3 hbr (HR6.out.no_wr _))
  have HB7 := Lib.hid (HB6.out.trans (h3.below hrw HB6.out.size))
  clear h1 h2 h3 HGA HR6 HW6 HB6
  go_wp2_with fail
  refine (HGB.out w7 r s HR7.out).mono ?_
  rintro e w8 ⟨vy, rfl, h1, h2, h3⟩
  have HY := Lib.hid h1
  have HX8 := Lib.hid (rd_sl HR7.out HX.out h3)
  have HR8 := Lib.hid h2
  have HW8 := Lib.hid (HW7.out.keep h3 hbr (HR7.out.no_wr _))
  have HB8 := Lib.hid (HB7.out.trans (h3.below hrw HB7.out.size))
  clear h1 h2 h3 HGB HR7 HW7 HB7 HX
  go_wp2_with fail
  refine (HWB.out w8 HW8.out).mono ?_
  rintro e w9 ⟨rfl, hr, hb⟩
  have HX9 := Lib.hid (HX8.out.below hb)
  have HY9 := Lib.hid (HY.out.below hb)
  have HR9 := Lib.hid (HR8.out.below hb)
  have HW9 := Lib.hid (HW8.out.below hb)
  have HB9 := Lib.hid (HB8.out.trans (hb.mono HB8.out.size))
  clear hr hb HX8 HY HR8 HW8 HB8
  go_wp2_with fail
  refine (HWB.out w9 HW9.out).mono ?_
  rintro e w10 ⟨rfl, hr, hb⟩
  have HD := Lib.hid (data_of_row w10 _ _ hr hlt)
  have HX10 := Lib.hid (HX9.out.below hb)
  have HY10 := Lib.hid (HY9.out.below hb)
  have HR10 := Lib.hid (HR9.out.below hb)
  have HW10 := Lib.hid (HW9.out.below hb)
  have HB10 := Lib.hid (HB9.out.trans (hb.mono HB9.out.size))
  clear hr hb HX9 HY9 HR9 HW9 HB9
  go_wp2_with fail
  refine (HWB.out w10 HW10.out).mono ?_
  rintro e w11 ⟨rfl, hr, hb⟩
  have HS := Lib.hid (take_sl (cap := len) (HD.out.below hb) (show k ≤ L.length by have := HLen.out; omega))
  have HX11 := Lib.hid (HX10.out.below hb)
  have HY11 := Lib.hid (HY10.out.below hb)
  have HR11 := Lib.hid (HR10.out.below hb)
  have HB11 := Lib.hid (HB10.out.trans (hb.mono HB10.out.size))
  clear hr hb HX10 HY10 HR10 HW10 HB10 HWB HD
  have hml : (L.take k).length ≤ 3000 := by rw [List.length_take]; have := HLen.out; omega
  clear HLen
  generalize L.take k = M at *
  go_wp2_with fail
  refine (new_ok w11 _ M HS.out (by omega)).mono ?_
  rintro e w12 ⟨s2, q, rfl, hr1, hrd1, hb1⟩
  have HQ12 := Lib.hid hrd1
  have hrq : r ≠ q := by have := HR11.out.lt; omega
  have hqw : w.heap.size ≤ q := by have := HB11.out.size; omega
  have HX12 := Lib.hid (HX11.out.below hb1)
  have HY12 := Lib.hid (HY11.out.below hb1)
  have HR12 := Lib.hid (HR11.out.below hb1)
  have HB12 := Lib.hid (HB11.out.trans (hb1.mono HB11.out.size))
  clear hr1 hrd1 hb1 HX11 HY11 HR11 HB11 HS
  go_wp2_with fail
  refine (HGC.out w12 q s2 0 HQ12.out).mono ?_
  rintro e w13 ⟨vi, rfl, _, h2, h3⟩
  have HQ13 := Lib.hid h2
  have HX13 := Lib.hid (rd_sl HQ12.out HX12.out h3)
  have HY13 := Lib.hid (rd_sl HQ12.out HY12.out h3)
  have HR13 := Lib.hid (HR12.out.keep h3 hrq HQ12.out.no_u8)
  have HB13 := Lib.hid (HB12.out.trans (h3.below hqw HB12.out.size))
  clear h2 h3 HX12 HY12 HR12 HB12 HQ12
  generalize (rdOpen al M 0).p = p1 at *
  go_wp2_with fail
  refine (HGC.out w13 q s2 p1 HQ13.out).mono ?_
  rintro e w14 ⟨vj, rfl, _, h2, h3⟩
  have HX14 := Lib.hid (rd_sl HQ13.out HX13.out h3)
  have HY14 := Lib.hid (rd_sl HQ13.out HY13.out h3)
  have HR14 := Lib.hid (HR13.out.keep h3 hrq HQ13.out.no_u8)
  have HB14 := Lib.hid (HB13.out.trans (h3.below hqw HB13.out.size))
  clear h2 h3 HX13 HY13 HR13 HB13 HQ13 HGC
  generalize (rdOpen al M 0).e = e1 at *
  generalize (rdOpen al M p1).e = e2 at *
  have hq2 : e1 = 2 ∨ ((e1 == 2) = false ∧ e2 = 2) := by
    by_cases h : e1 = 2
    · exact .inl h
    · exact .inr ⟨beq_eq_false_iff_ne.2 h, hck.resolve_left h⟩
  clear hck
  rcases hq2 with rfl | ⟨q5, rfl⟩
  all_goals
    go_wp2_with fail
    refine (opsame_yes w14 _ _ _ HX14.out (HSA.out w14 HB14.out)).mono ?_
    rintro e w15 ⟨rfl, rfl⟩
    go_wp2_with fail
    refine (opsame_yes w14 _ _ _ HY14.out (HSB.out w14 HB14.out)).mono ?_
    rintro e w15 ⟨rfl, rfl⟩
    go_wp2_with fail
    refine (HEND.out w14 r s HR14.out).mono ?_
    rintro e w15 ⟨rfl, hst⟩
    have HB15 := Lib.hid (HB14.out.trans (hst.below _))
    clear hst
    go_wp2_with fail
    go_ret
    exact ⟨rfl, HB15.out⟩
theorem walk (w : World) (al : Bool) (a1 : Option Addr) (len1 cap1 : Nat) (z1 : List Int) (w1 : IsRow .u8 w a1 len1 cap1 z1) (a2 : Option Addr) (len2 cap2 : Nat) (z2 : List Int) (w2 : IsRow .u8 w a2 len2 cap2 z2) (cut : Int) (w3 : (Lit.int .i64 cut).wf = true) :
    Calls Try.prog 8 #[.bool al, .slice a1 len1 cap1, .slice a2 len2 cap2, .int .i64 cut] w fun e w' => e = .returned (.bool true) ∧ Below w.heap.size w w' := by
  obtain ⟨la, hsa, hla⟩ := sb_of_isRow w1
  obtain ⟨lb, hsb, hlb⟩ := sb_of_isRow w2
  by_cases h : 1000 < len1 ∨ 1000 < len2
  · exact walk_out w al a1 len1 cap1 a2 len2 cap2 cut h
  · exact walk_main w al a1 len1 cap1 la hsa a2 len2 cap2 lb hsb cut (by omega) (by omega)

set_option maxRecDepth 100000 in
theorem lifted (os : Os) (started : os.Started) (H : Type) (enc : TypeId × Value → H) :
    ReturnsInHanded {} Try.checked os 8 .any (Rows.openJoinsSpec.pre6 enc Try.prog Try.f8 Rows.openJoinsRow.domain false) (Rows.openJoinsSpec.post enc Try.prog Try.f8 false true false false) := by
  refine returnsInHanded_of_change (C := Try.checked) own started (by kernel_rfl) Try.func8
    (ChangeSpec.witness6 (enc := enc) (C := Try.checked) false ⟨#[], #[.bool false, .slice none 0 0, .slice none 0 0, .int .i64 0], []⟩ 8 (by kernel_rfl) (by kernel_rfl) (by kernel_rfl) (by kernel_rfl)) ?_
  intro W base args ds gs before hval0 hW hcnd _
  have hval : ∀ (j : Nat) t v, Try.f8.params[j]? = some t → args[j]? = some v → Value.okWide Try.prog W .any base t v := hval0
  have hW' := hW
  obtain ⟨p, q, hA0, hV, rfl, hfz, hnd⟩ := hW
  have hA : DataW.TrodAll enc Try.prog W 0 (fun _ => true) true Try.f8.params.toList args.toList ds p := hA0
  rw [Try.params8] at hA hval
  obtain ⟨v0, vs0, d0, ds0, p0, q0, hargs, rfl, rfl, h0, r0⟩ := trodAll_cons hA
  obtain ⟨v1, vs1, d1, ds1, p1, q1, rfl, rfl, rfl, h1, r1⟩ := trodAll_cons r0
  obtain ⟨v2, vs2, d2, ds2, p2, q2, rfl, rfl, rfl, h2, r2⟩ := trodAll_cons r1
  obtain ⟨v3, vs3, d3, ds3, p3, q3, rfl, rfl, rfl, h3, r3⟩ := trodAll_cons r2
  obtain ⟨rfl, rfl, rfl⟩ := trodAll_nil r3
  obtain rfl : args = #[v0, v1, v2, v3] := by cases args; simp_all
  obtain ⟨rfl, rfl⟩ := trodVars_none hV
  obtain ⟨a0, rfl, rfl, rfl⟩ := open_bool Try.underlying4 (hval 0 4 v0 rfl rfl) h0
  obtain ⟨a1, len1, cap1, rfl⟩ := okWide_slice Try.underlying22 (hval 1 22 v1 rfl rfl)
  have k1 := h1
  have lt1 : ∀ x ∈ p1, x.block < W.heap.size := by obtain ⟨m, hm⟩ := k1; exact DataW.trod_lt m _ _ _ hm
  obtain ⟨z1, w1⟩ : ∃ zs, IsRow .u8 W a1 len1 cap1 zs := by
    obtain ⟨fuel, hf⟩ := h1
    rcases open_ints Try.underlying22 Try.underlying5 (by kernel_rfl) hf with ⟨hcs, _⟩ | ⟨x, l, c, zs, hcs, _, hl, hm, hz, _, hcell, hwz⟩
    · simp [Value.cells] at hcs
      obtain ⟨rfl, rfl, rfl⟩ := hcs
      exact ⟨[], .inl ⟨rfl, rfl, rfl, rfl⟩⟩
    · simp [Value.cells] at hcs
      obtain ⟨rfl, rfl, rfl⟩ := hcs
      exact ⟨zs, .inr ⟨_, rfl, hl, hm, by simpa using hz, hcell, hwz⟩⟩
  obtain ⟨a2, len2, cap2, rfl⟩ := okWide_slice Try.underlying22 (hval 2 22 v2 rfl rfl)
  have k2 := h2
  have lt2 : ∀ x ∈ p2, x.block < W.heap.size := by obtain ⟨m, hm⟩ := k2; exact DataW.trod_lt m _ _ _ hm
  obtain ⟨z2, w2⟩ : ∃ zs, IsRow .u8 W a2 len2 cap2 zs := by
    obtain ⟨fuel, hf⟩ := h2
    rcases open_ints Try.underlying22 Try.underlying5 (by kernel_rfl) hf with ⟨hcs, _⟩ | ⟨x, l, c, zs, hcs, _, hl, hm, hz, _, hcell, hwz⟩
    · simp [Value.cells] at hcs
      obtain ⟨rfl, rfl, rfl⟩ := hcs
      exact ⟨[], .inl ⟨rfl, rfl, rfl, rfl⟩⟩
    · simp [Value.cells] at hcs
      obtain ⟨rfl, rfl, rfl⟩ := hcs
      exact ⟨zs, .inr ⟨_, rfl, hl, hm, by simpa using hz, hcell, hwz⟩⟩
  obtain ⟨a3, rfl, rfl, rfl, w3⟩ := open_int Try.underlying3 (hval 3 3 v3 rfl rfl) h3
  clear hA0 hval0
  refine (walk W a0 a1 len1 cap1 z1 w1 a2 len2 cap2 z2 w2 a3 w3).mono fun e W' ⟨he, bel⟩ => ?_
  subst he
  exact ⟨_, rfl, _, _, _, [], _, [], hW', trodAll_mk1 (shut_bool Try.underlying4 _), (trodAll_cons_mk (shut_bool Try.underlying4 a0) (trodAll_cons_mk (Below.trod laidOut (by kernel_rfl) (of_decide_eq_true (by kernel_rfl)) k1 bel lt1) (trodAll_cons_mk (Below.trod laidOut (by kernel_rfl) (of_decide_eq_true (by kernel_rfl)) k2 bel lt2) (trodAll_cons_mk (shut_int Try.underlying3 w3) trodAll_mk0)))), rfl, bel.frame _, fun h => by cases h⟩

theorem over : Rows.openJoinsRow.holds Try.pinned (OpenSpec.ofChange Rows.openJoinsSpec) :=
  OpenClaim.holds_of_wide 8 Try.f8 rfl rfl rfl rfl rfl rfl rfl ⟨rfl, rfl, rfl, rfl, rfl⟩ rfl rfl rfl rfl rfl (by kernel_rfl) Try.func8 (by kernel_rfl)
    (of_decide_eq_true (by kernel_rfl)) (by unfold Func.isWrapper; first | (rw [if_pos (by decide +kernel)]; kernel_rfl) | (rw [if_neg (by decide +kernel)]; exact ⟨rfl, rfl⟩))
    (fun os started H enc _ => lifted os started H enc)

theorem proved : Rows.OpenJoinsSaid := over
end Go.Proofs.Ytinggfelgcdkfaa.openJoins
