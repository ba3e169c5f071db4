/-
  What a number between two bounds is written as, bit by bit, and what reading such bits tells (no program is run here).
-/
import Derived.Test.YtbpfggkpfaobhaaGreatHas
namespace Go.Proofs.YtbpfggkpfaobhaaGreat
open Go.RowKit
set_option linter.unusedVariables false
set_option linter.unusedSimpArgs false
set_option maxRecDepth 100000

/-- the bits B, and behind them the offset v of a range R -/
def putW (al : Bool) (B : List Bool) (v R : Nat) : List Bool :=
  if al = false ∨ R ≤ 254 then B ++ nb v (wid R)
  else if R = 255 then padded B ++ nb v 8
  else if R ≤ 65535 then padded B ++ nb v 16
  else padded (B ++ nb (cnt v - 1) (wid (cnt R - 1))) ++ bitsOf (low v (cnt v))
theorem putW_small {al : Bool} {R : Nat} (h : al = false ∨ R ≤ 254) (B : List Bool) (v : Nat) : putW al B v R = B ++ nb v (wid R) := if_pos h
theorem putW_255 (B : List Bool) (v : Nat) : putW true B v 255 = padded B ++ nb v 8 := by
  unfold putW
  rw [if_neg (by decide), if_pos rfl]
theorem putW_16 {R : Nat} (h1 : 255 < R) (h2 : R ≤ 65535) (B : List Bool) (v : Nat) : putW true B v R = padded B ++ nb v 16 := by
  unfold putW
  rw [if_neg (by simp; omega), if_neg (by omega), if_pos h2]
theorem putW_big {R : Nat} (h : 65535 < R) (B : List Bool) (v : Nat) : putW true B v R = padded (B ++ nb (cnt v - 1) (wid (cnt R - 1))) ++ bitsOf (low v (cnt v)) := by
  unfold putW
  rw [if_neg (by simp; omega), if_neg (by omega), if_neg (by omega)]
theorem padded_le (B : List Bool) : B.length ≤ (padded B).length ∧ (padded B).length ≤ B.length + 7 := by rw [padded_length]; omega
theorem cnt_big {R : Nat} (h : 65535 < R) (hR : R < 2 ^ 64) : 3 ≤ cnt R := by
  have h1 := cnt_lt R hR
  rcases Nat.lt_or_ge (cnt R) 3 with h2 | h2
  · have h3 : 2 ^ (8 * cnt R) ≤ 2 ^ 16 := pow_le (by omega)
    omega
  · exact h2
theorem wid7 {c : Nat} (h : c ≤ 7) : wid c ≤ 3 := wid_le c 3 (by omega) (by omega)
theorem wid2 {c : Nat} (h : 2 ≤ c) (h7 : c ≤ 7) : 2 ≤ wid c := by
  have h1 := (wid_bounds c (by omega) (by omega)).2.2
  rcases Nat.lt_or_ge (wid c) 2 with h2 | h2
  · have h3 : 2 ^ wid c ≤ 2 ^ 1 := pow_le (by omega)
    omega
  · exact h2
theorem wid254 {c : Nat} (h : c ≤ 65535) : wid c ≤ 16 := wid_le c 16 (by omega) (by omega)
theorem putW_le (al : Bool) (B : List Bool) (v R : Nat) (hv : v ≤ R) (hR : R < 2 ^ 64) : (putW al B v R).length ≤ B.length + 100 := by
  unfold putW
  have h1 := padded_le B
  have h2 := padded_le (B ++ nb (cnt v - 1) (wid (cnt R - 1)))
  have h3 := wid_le64 R hR
  have h4 := cnt_le v (by omega)
  have h5 := cnt_le R hR
  have h6 := wid7 (c := cnt R - 1) (by omega)
  rw [List.length_append, nb_length] at h2
  split
  · rw [List.length_append, nb_length]; omega
  · split
    · rw [List.length_append, nb_length]; omega
    · split
      · rw [List.length_append, nb_length]; omega
      · rw [List.length_append, bitsOf_length, low_length]; omega
theorem putW_pre (al : Bool) (B : List Bool) (v R : Nat) : ∃ S, putW al B v R = B ++ S := by
  unfold putW
  split
  · exact ⟨_, rfl⟩
  · split
    · exact ⟨_, by rw [padded_gap, List.append_assoc]⟩
    · split
      · exact ⟨_, by rw [padded_gap, List.append_assoc]⟩
      · exact ⟨_, by rw [padded_gap, List.append_assoc, List.append_assoc]⟩
theorem cnt_sub (v R : Nat) (hv : v ≤ R) (hR : R < 2 ^ 64) : cnt v - 1 ≤ cnt R - 1 ∧ cnt v - 1 < 2 ^ wid (cnt R - 1) ∧ cnt R - 1 ≤ 7 ∧ cnt v - 1 + 1 = cnt v := by
  have h1 := cnt_mono v R hv hR
  have h2 := cnt_le R hR
  have h3 := cnt_pos v
  have h4 := wid_lt (cnt R - 1) (by omega)
  omega

/-- what reading tells: an error, a number, and where the reader stands then -/
structure Rd where
  e : Int
  v : Nat
  p : Nat
def rdPlain (L : List Nat) (p k : Nat) : Rd := ⟨gerr L p k, gval L p k, gpos L p k⟩
def rdMid (L : List Nat) (p k : Nat) : Rd := if aerr L p = 0 then rdPlain L (apos L p) k else ⟨aerr L p, 0, apos L p⟩
def rdOcts (L : List Nat) (p : Nat) (n : Int) : Rd := if oerr L p n = 0 then ⟨uerr (olst L p n), uval (olst L p n), opos L p n⟩ else ⟨oerr L p n, 0, opos L p n⟩
def rdAl (L : List Nat) (p : Nat) (n : Int) : Rd := if aerr L p = 0 then rdOcts L (apos L p) n else ⟨aerr L p, 0, apos L p⟩
def rdBig (L : List Nat) (p c : Nat) : Rd :=
  if gerr L p (wid c) = 0 then (if c < gval L p (wid c) then ⟨4, 0, gpos L p (wid c)⟩ else rdAl L (gpos L p (wid c)) (1 + gval L p (wid c) : Nat))
  else ⟨gerr L p (wid c), 0, gpos L p (wid c)⟩
def rdOff (al : Bool) (L : List Nat) (p R : Nat) : Rd :=
  if al = false ∨ R ≤ 254 then rdPlain L p (wid R)
  else if R = 255 then rdMid L p 8
  else if R ≤ 65535 then rdMid L p 16
  else rdBig L p (cnt R - 1)
theorem rdOff_small {al : Bool} {R : Nat} (h : al = false ∨ R ≤ 254) (L : List Nat) (p : Nat) : rdOff al L p R = rdPlain L p (wid R) := if_pos h
theorem rdOff_255 (L : List Nat) (p : Nat) : rdOff true L p 255 = rdMid L p 8 := by
  unfold rdOff
  rw [if_neg (by decide), if_pos rfl]
theorem rdOff_16 {R : Nat} (h1 : 255 < R) (h2 : R ≤ 65535) (L : List Nat) (p : Nat) : rdOff true L p R = rdMid L p 16 := by
  unfold rdOff
  rw [if_neg (by simp; omega), if_neg (by omega), if_pos h2]
theorem rdOff_big {R : Nat} (h : 65535 < R) (L : List Nat) (p : Nat) : rdOff true L p R = rdBig L p (cnt R - 1) := by
  unfold rdOff
  rw [if_neg (by simp; omega), if_neg (by omega), if_neg (by omega)]

theorem rdPlain_has {L : List Nat} {A : List Bool} {v k : Nat} (h : Has L A (nb v k)) (p : Nat) (hp : p = A.length) (hk : k ≤ 64) (hv : v < 2 ^ k) : rdPlain L p k = ⟨0, v, p + k⟩ := by
  obtain ⟨h1, h2, h3⟩ := get_has h p k hp (nb_length v k).symm hk
  unfold rdPlain
  rw [h1, h2, h3, num_nb v k hv]
theorem rdMid_has {L : List Nat} {A : List Bool} {v k : Nat} (h : Has L (padded A) (nb v k)) (p : Nat) (hp : p = A.length) (hk : k ≤ 64) (hv : v < 2 ^ k) : rdMid L p k = ⟨0, v, (padded A).length + k⟩ := by
  have ha : Has L A (List.replicate (gapN A.length) false) := by
    obtain ⟨R, hR⟩ := h
    exact ⟨nb v k ++ R, by rw [hR, padded_gap]; simp only [List.append_assoc]⟩
  obtain ⟨h1, h2⟩ := align_has ha p hp
  unfold rdMid
  rw [h1, if_pos rfl, h2, rdPlain_has h _ rfl hk hv]
theorem rdAl_has {L : List Nat} {A : List Bool} {l : List Nat} (h : Has L (padded A) (bitsOf l)) (hb : ∀ i, l.getD i 0 < 256) (p : Nat) (z : Int) (hp : p = A.length) (hz : z = l.length) : rdAl L p z = ⟨uerr l, uval l, (padded A).length + 8 * l.length⟩ := by
  have ha : Has L A (List.replicate (gapN A.length) false) := by
    obtain ⟨R, hR⟩ := h
    exact ⟨bitsOf l ++ R, by rw [hR, padded_gap]; simp only [List.append_assoc]⟩
  obtain ⟨h1, h2⟩ := align_has ha p hp
  obtain ⟨g1, g2, g3⟩ := octs_has h hb (padded A).length z rfl hz
  unfold rdAl rdOcts
  rw [h1, if_pos rfl, h2, g1, if_pos rfl, g2, g3]
/-- what was put is read -/
theorem back_has (al : Bool) (L : List Nat) (B : List Bool) (v R : Nat) (hv : v ≤ R) (hR : R < 2 ^ 64) (h : ∃ T, bitsOf L = putW al B v R ++ T) : rdOff al L B.length R = ⟨0, v, (putW al B v R).length⟩ := by
  obtain ⟨T, hT⟩ := h
  have h64 := wid_le64 R hR
  have hw := wid_lt R hR
  by_cases h1 : al = false ∨ R ≤ 254
  · rw [putW_small h1] at hT ⊢
    rw [rdOff_small h1, rdPlain_has ⟨T, hT⟩ _ rfl h64 (by omega), List.length_append, nb_length]
  · have hal : al = true := by cases al <;> simp_all
    subst hal
    have h2 : 254 < R := by simp at h1; exact h1
    by_cases h3 : R = 255
    · subst h3
      rw [putW_255] at hT ⊢
      rw [rdOff_255, rdMid_has ⟨T, hT⟩ _ rfl (by omega) (by omega), List.length_append, nb_length]
    · by_cases h4 : R ≤ 65535
      · rw [putW_16 (by omega) h4] at hT ⊢
        rw [rdOff_16 (by omega) h4, rdMid_has ⟨T, hT⟩ _ rfl (by omega) (by omega), List.length_append, nb_length]
      · rw [putW_big (by omega)] at hT ⊢
        rw [rdOff_big (by omega)]
        obtain ⟨c1, c2, c3, c4⟩ := cnt_sub v R hv hR
        have hw7 := wid7 c3
        have hG : Has L B (nb (cnt v - 1) (wid (cnt R - 1))) := ⟨List.replicate (gapN (B ++ nb (cnt v - 1) (wid (cnt R - 1))).length) false ++ (bitsOf (low v (cnt v)) ++ T), by rw [hT, padded_gap]; simp only [List.append_assoc]⟩
        obtain ⟨g1, g2, g3⟩ := get_has hG _ _ rfl (nb_length _ _).symm (by omega)
        rw [num_nb _ _ c2] at g2
        unfold rdBig
        rw [g1, if_pos rfl, g2, g3, if_neg (by omega), rdAl_has ⟨T, hT⟩ (low_lt _ _) _ _ (by rw [List.length_append, nb_length]) (by rw [low_length]; omega), uerr_low v (by omega), uval_low v (by omega), List.length_append, bitsOf_length]
/-- what was put, cut off -/
theorem cut_short (al : Bool) (v R k : Nat) (hv : v ≤ R) (hR : R < 2 ^ 64) (hk : k < (wb (putW al [] v R)).length) (hne : putW al [] v R ≠ []) : (rdOff al ((wb (putW al [] v R)).take k) 0 R).e = 2 := by
  have hlen : (wb (putW al [] v R)).length = ((putW al [] v R).length + 7) / 8 := by unfold wb; rw [if_neg hne, octs_length]
  have hl' : ((wb (putW al [] v R)).take k).length = k := by rw [List.length_take]; omega
  have h64 := wid_le64 R hR
  by_cases h1 : al = false ∨ R ≤ 254
  · rw [rdOff_small h1]
    refine get_short_e h64 ?_
    rw [hl']
    clear hl'
    generalize (wb (putW al [] v R)).length = N at hk hlen
    rw [putW_small h1, List.length_append, nb_length] at hlen
    simp at hlen
    omega
  · have hal : al = true := by cases al <;> simp_all
    subst hal
    have h2 : 254 < R := by simp at h1; exact h1
    have a0 : ∀ L : List Nat, aerr L 0 = 0 ∧ apos L 0 = 0 := fun L => align_at rfl
    by_cases h3 : R = 255
    · subst h3
      rw [rdOff_255]
      unfold rdMid
      rw [(a0 _).1, if_pos rfl, (a0 _).2]
      refine get_short_e (k := 8) (by omega) ?_
      rw [hl']
      clear hl'
      generalize (wb (putW true [] v 255)).length = N at hk hlen
      rw [putW_255, List.length_append, nb_length, padded_length] at hlen
      simp at hlen
      omega
    · by_cases h4 : R ≤ 65535
      · rw [rdOff_16 (by omega) h4]
        unfold rdMid
        rw [(a0 _).1, if_pos rfl, (a0 _).2]
        refine get_short_e (k := 16) (by omega) ?_
        rw [hl']
        clear hl'
        generalize (wb (putW true [] v R)).length = N at hk hlen
        rw [putW_16 (by omega) h4, List.length_append, nb_length, padded_length] at hlen
        simp at hlen
        omega
      · rw [rdOff_big (by omega)]
        obtain ⟨c1, c2, c3, c4⟩ := cnt_sub v R hv hR
        have hw7 := wid7 c3
        have hc3 := cnt_big (R := R) (by omega) hR
        have hw2 := wid2 (c := cnt R - 1) (by omega) c3
        rw [putW_big (by omega), List.nil_append] at hlen hne hk hl' ⊢
        have hpl : (padded (nb (cnt v - 1) (wid (cnt R - 1)))).length = 8 := by rw [padded_length, nb_length]; omega
        rw [List.length_append, bitsOf_length, low_length, hpl] at hlen
        obtain ⟨m, hm, _⟩ := wb_bits (padded (nb (cnt v - 1) (wid (cnt R - 1))) ++ bitsOf (low v (cnt v)))
        generalize hW : wb (padded (nb (cnt v - 1) (wid (cnt R - 1))) ++ bitsOf (low v (cnt v))) = W at *
        rcases Nat.eq_zero_or_pos k with hk0 | hk0
        · subst hk0
          have : gerr (W.take 0) 0 (wid (cnt R - 1)) = 2 := get_short_e (by omega) (by rw [hl']; omega)
          unfold rdBig
          rw [this, if_neg (by decide)]
        · have hpre : ∃ T, bitsOf (W.take k) = padded (nb (cnt v - 1) (wid (cnt R - 1))) ++ T := by
            have e1 : bitsOf W = bitsOf (W.take k) ++ bitsOf (W.drop k) := by rw [← bitsOf_append, List.take_append_drop]
            have e2 : (bitsOf (W.take k)).length = 8 * k := by rw [bitsOf_length, hl']
            rw [hm] at e1
            have e3 := congrArg (List.take 8) e1
            rw [List.append_assoc, List.take_left' hpl, List.take_append_of_le_length (by omega)] at e3
            refine ⟨(bitsOf (W.take k)).drop 8, ?_⟩
            rw [e3, List.take_append_drop]
          obtain ⟨T, hT⟩ := hpre
          have hG : Has (W.take k) [] (nb (cnt v - 1) (wid (cnt R - 1))) := ⟨List.replicate (gapN (nb (cnt v - 1) (wid (cnt R - 1))).length) false ++ T, by rw [hT, padded_gap]; simp only [List.append_assoc, List.nil_append]⟩
          have hA : Has (W.take k) (nb (cnt v - 1) (wid (cnt R - 1))) (List.replicate (gapN (nb (cnt v - 1) (wid (cnt R - 1))).length) false) := ⟨T, by rw [hT, padded_gap]⟩
          obtain ⟨g1, g2, g3⟩ := get_has hG 0 _ rfl (nb_length _ _).symm (by omega)
          rw [num_nb _ _ c2] at g2
          obtain ⟨g4, g5⟩ := align_has hA (0 + wid (cnt R - 1)) (by rw [nb_length, Nat.zero_add])
          have g6 : oerr (W.take k) (padded (nb (cnt v - 1) (wid (cnt R - 1)))).length ((1 + (cnt v - 1) : Nat) : Int) = 2 := octs_short_e (by rw [hl', hpl]; omega) (by rw [hl', hpl]; omega)
          unfold rdBig rdAl rdOcts
          rw [g1, if_pos rfl, g2, g3, if_neg (by omega), g4, if_pos rfl, g5, g6, if_neg (by decide)]

/-- the errors and the bits of Put -/
def wErr (n lo hi : Int) : Int := if hi < lo then 1 else if n < lo ∨ hi < n then 4 else 0
def wBits (al : Bool) (B : List Bool) (n lo hi : Int) : List Bool := if wErr n lo hi = 0 then putW al B (n - lo).toNat (hi - lo).toNat else B
theorem wErr_arg {n lo hi : Int} (h : hi < lo) : wErr n lo hi = 1 := if_pos h
theorem wErr_con {n lo hi : Int} (h : lo ≤ hi) (h2 : n < lo ∨ hi < n) : wErr n lo hi = 4 := by unfold wErr; rw [if_neg (by omega), if_pos h2]
theorem wErr_ok {n lo hi : Int} (h1 : lo ≤ n) (h2 : n ≤ hi) : wErr n lo hi = 0 := by unfold wErr; rw [if_neg (by omega), if_neg (by omega)]
theorem wBits_ok {n lo hi : Int} (h1 : lo ≤ n) (h2 : n ≤ hi) (al : Bool) (B : List Bool) : wBits al B n lo hi = putW al B (n - lo).toNat (hi - lo).toNat := if_pos (wErr_ok h1 h2)
theorem wBits_bad {n lo hi : Int} (h : wErr n lo hi ≠ 0) (al : Bool) (B : List Bool) : wBits al B n lo hi = B := if_neg h
theorem wBits_le (al : Bool) (B : List Bool) (n lo hi : Int) (b1 : -9223372036854775808 ≤ n ∧ n ≤ 9223372036854775807) (b2 : -9223372036854775808 ≤ lo ∧ lo ≤ 9223372036854775807) (b3 : -9223372036854775808 ≤ hi ∧ hi ≤ 9223372036854775807) : (wBits al B n lo hi).length ≤ B.length + 100 := by
  by_cases h : hi < lo ∨ n < lo ∨ hi < n
  · rw [wBits_bad]
    · omega
    · by_cases h1 : hi < lo
      · rw [wErr_arg h1]; decide
      · rw [wErr_con (by omega) (by omega)]; decide
  · rw [wBits_ok (by omega) (by omega)]
    exact putW_le _ _ _ _ (by omega) (by omega)
/-- the errors, the numbers and the places of Get -/
def gE (al : Bool) (L : List Nat) (p : Nat) (lo hi : Int) : Int := if hi < lo then 1 else if (rdOff al L p (hi - lo).toNat).e ≠ 0 then (rdOff al L p (hi - lo).toNat).e else if (hi - lo).toNat < (rdOff al L p (hi - lo).toNat).v then 4 else 0
def gN (al : Bool) (L : List Nat) (p : Nat) (lo hi : Int) : Int := if gE al L p lo hi = 0 then lo + (rdOff al L p (hi - lo).toNat).v else 0
def gP (al : Bool) (L : List Nat) (p : Nat) (lo hi : Int) : Nat := if hi < lo then p else (rdOff al L p (hi - lo).toNat).p
theorem gE_arg {al : Bool} {L : List Nat} {p : Nat} {lo hi : Int} (h : hi < lo) : gE al L p lo hi = 1 ∧ gN al L p lo hi = 0 ∧ gP al L p lo hi = p := by
  have h1 : gE al L p lo hi = 1 := if_pos h
  exact ⟨h1, by unfold gN; rw [h1]; rfl, if_pos h⟩
theorem gE_bad {al : Bool} {L : List Nat} {p : Nat} {lo hi : Int} {e : Int} {v q : Nat} (h : lo ≤ hi) (hr : rdOff al L p (hi - lo).toNat = ⟨e, v, q⟩) (he : e ≠ 0) : gE al L p lo hi = e ∧ gN al L p lo hi = 0 ∧ gP al L p lo hi = q := by
  have h1 : gE al L p lo hi = e := by unfold gE; rw [if_neg (by omega), hr, if_pos he]
  exact ⟨h1, by unfold gN; rw [h1, if_neg he], by unfold gP; rw [if_neg (by omega), hr]⟩
theorem gE_con {al : Bool} {L : List Nat} {p : Nat} {lo hi : Int} {v q : Nat} (h : lo ≤ hi) (hr : rdOff al L p (hi - lo).toNat = ⟨0, v, q⟩) (hv : (hi - lo).toNat < v) : gE al L p lo hi = 4 ∧ gN al L p lo hi = 0 ∧ gP al L p lo hi = q := by
  have h1 : gE al L p lo hi = 4 := by unfold gE; rw [if_neg (by omega), hr, if_neg (by simp), if_pos hv]
  exact ⟨h1, by unfold gN; rw [h1]; rfl, by unfold gP; rw [if_neg (by omega), hr]⟩
theorem gE_ok {al : Bool} {L : List Nat} {p : Nat} {lo hi : Int} {v q : Nat} (h : lo ≤ hi) (hr : rdOff al L p (hi - lo).toNat = ⟨0, v, q⟩) (hv : v ≤ (hi - lo).toNat) : gE al L p lo hi = 0 ∧ gN al L p lo hi = lo + v ∧ gP al L p lo hi = q := by
  have h1 : gE al L p lo hi = 0 := by unfold gE; rw [if_neg (by omega), hr, if_neg (by simp), if_neg (by simp; omega)]
  exact ⟨h1, by unfold gN; rw [h1, if_pos rfl, hr], by unfold gP; rw [if_neg (by omega), hr]⟩
end Go.Proofs.YtbpfggkpfaobhaaGreat
