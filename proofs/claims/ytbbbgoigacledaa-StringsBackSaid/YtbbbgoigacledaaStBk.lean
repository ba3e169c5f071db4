/-
  Strings: what was put is what is got (no walk here).
-/
import Derived.Test.YtbbbgoigacledaaStTxt
namespace Go.Proofs.Ytbbbgoigacledaa
open Go.RowKit
set_option linter.unusedVariables false
set_option linter.unusedSimpArgs false
set_option maxRecDepth 100000

theorem lead_pre (c : Bool) (B : List Bool) : ∃ S, lead c B = B ++ S := by
  cases c
  · exact ⟨[], by rw [lead_false, List.append_nil]⟩
  · exact ⟨_, by rw [lead_true, padded_gap]⟩
theorem lBits_pre (al : Bool) (B : List Bool) (n lo hi : Int) : ∃ S, lBits al B n lo hi = B ++ S := by
  by_cases he : lErr n lo hi = 0
  · by_cases hh : 0 ≤ hi ∧ hi ≤ 65535
    · rw [(lPut_nar he hh al B).1]
      unfold wBits
      split
      · exact putW_pre _ _ _ _
      · exact ⟨[], by rw [List.append_nil]⟩
    · rw [(lPut_form he hh al B).1]
      exact putF_pre _ _ _
  · rw [(lPut_bad he al B).1]
    exact ⟨[], by rw [List.append_nil]⟩
theorem stP_pre (al tx : Bool) (k : Nat) (B : List Bool) (n : Nat) (lo hi : Int) : ∃ S, stP al tx k B n lo hi = B ++ S := by
  unfold stP
  obtain ⟨S, hS⟩ := lead_pre (algn al tx k n lo hi) (if fixd lo hi = true then B else lBits al B n lo hi)
  rw [hS]
  split
  · exact ⟨S, rfl⟩
  · obtain ⟨R, hR⟩ := lBits_pre al B n lo hi
    exact ⟨R ++ S, by rw [hR, List.append_assoc]⟩
theorem uGo_back (L : List Nat) (k : Nat) (hk : k ≤ 64) : ∀ (l : List Nat) (A : List Bool) (acc : List Nat), (∃ T, bitsOf L = A ++ ubits k l ++ T) → (∀ x ∈ l, x < 2 ^ k) → uGo L k l.length A.length acc = ⟨0, acc ++ l, A.length + l.length * k⟩
  | [], A, acc, _, _ => by simp [uGo]
  | x :: l, A, acc, h, hl => by
    obtain ⟨T, hT⟩ := h
    have hu : ubits k (x :: l) = nb x k ++ ubits k l := by simp [ubits]
    rw [hu] at hT
    obtain ⟨g1, g2, g3⟩ := get_has (L := L) (A := A) (S := nb x k) ⟨ubits k l ++ T, by rw [hT]; simp only [List.append_assoc]⟩ A.length k rfl (nb_length x k).symm hk
    rw [num_nb x k (hl x (List.mem_cons_self ..))] at g2
    have g3 : gpos L A.length k = (A ++ nb x k).length := by rw [g3, List.length_append, nb_length]
    show uGo L k (l.length + 1) A.length acc = _
    rw [uGo_step g1, g2, g3, uGo_back L k hk l (A ++ nb x k) (acc ++ [x]) ⟨T, by rw [hT]; simp only [List.append_assoc]⟩ (fun y hy => hl y (List.mem_cons_of_mem _ hy))]
    rw [List.append_assoc, List.length_append, nb_length, List.length_cons, Nat.succ_mul]
    congr 1
    omega
theorem oGo_back (L : List Nat) (A : List Bool) (l : List Nat) (h : ∃ T, bitsOf L = A ++ bitsOf l ++ T) (hb : ∀ i, l.getD i 0 < 256) : oGo L l.length A.length = ⟨0, l, A.length + l.length * 8⟩ := by
  obtain ⟨h1, h2, h3⟩ := octs_has (L := L) (A := A) (l := l) h hb A.length l.length rfl rfl
  unfold oGo
  rw [h1, h2, h3, Nat.mul_comm]
theorem part_back {L : List Nat} {c : Bool} {X : List Bool} {U : Nat → Nat → Ro} {n : Nat} {o : Ro} (h : ∃ T, bitsOf L = lead c X ++ T) (hU : U n (lead c X).length = o) : rdPart c U L n X.length = o := by
  obtain ⟨T, hT⟩ := h
  unfold rdPart
  cases c with
  | false =>
    rw [lead_false] at hU
    rw [if_neg (by simp), hU]
  | true =>
    rw [lead_true] at hU hT
    obtain ⟨h1, h2⟩ := align_has (L := L) (A := X) ⟨T, by rw [hT, padded_gap]⟩ X.length rfl
    rw [if_pos rfl, h1, if_pos rfl, h2, hU]
theorem rS_back {al tx : Bool} {k : Nat} {U : Nat → Nat → Ro} {L : List Nat} {B : List Bool} {lo hi : Int} {l : List Nat} {q : Nat} (hs : sE l.length lo hi = 0) (hn : l.length < 16384) (h : ∃ T, bitsOf L = stP al tx k B l.length lo hi ++ T) (hU : U l.length (stP al tx k B l.length lo hi).length = ⟨0, l, q⟩) :
    rS al tx k U L B.length lo hi = ⟨0, l, q⟩ ∧ Last al tx k U L B.length lo hi := by
  have hle := sE_lErr hs
  obtain ⟨z1, z2, z3⟩ := lErr_zero hle
  have hv : ¬ lBad lo hi := by unfold lBad; omega
  have hglm : (gl al L B.length lo hi).m = true → False := by
    intro hm
    by_cases hh : 0 ≤ hi ∧ hi ≤ 65535
    · rw [gl_nar hh] at hm; cases hm
    · have hf : ¬ (lo = hi ∧ hi ≤ 65535) := by omega
      rw [gl_open hh] at hm
      rw [stP_var hf] at h
      obtain ⟨p1, p2, p3⟩ := lPut_form hle hh al B
      rw [Int.toNat_natCast, lfst_small hn] at p1
      obtain ⟨T, hT⟩ := h
      obtain ⟨S, hS⟩ := lead_pre (algn al tx k l.length lo hi) (lBits al B l.length lo hi)
      rw [putF_has (L := L) (al := al) (B := B) (c := l.length) ⟨S ++ T, by rw [hT, hS, p1, List.append_assoc]⟩ (.inl hn)] at hm
      simp at hm
      omega
  refine ⟨?_, fun hm => absurd hm (fun h => hglm h)⟩
  by_cases hf : lo = hi ∧ hi ≤ 65535
  · rw [rS_fix hv hf]
    rw [stP_fix hf] at h hU
    have hlo : lo.toNat = l.length := by omega
    rw [hlo]
    exact part_back h hU
  · rw [stP_var hf] at h hU
    obtain ⟨T, hT⟩ := h
    obtain ⟨S, hS⟩ := lead_pre (algn al tx k l.length lo hi) (lBits al B l.length lo hi)
    obtain ⟨e1, e2, e3, e4⟩ := len_back al L B l.length lo hi hle (by omega) ⟨S ++ T, by rw [hT, hS, List.append_assoc]⟩
    rw [(one_len hle hn).1] at e2
    have hg : (gl al L B.length lo hi).e = 0 ∧ (gl al L B.length lo hi).v = l.length ∧ (gl al L B.length lo hi).p = (lBits al B l.length lo hi).length := by
      by_cases hh : 0 ≤ hi ∧ hi ≤ 65535
      · obtain ⟨g1, g2, g3, g4⟩ := lg_nar hv hh al L B.length
        rw [gl_nar hh]
        refine ⟨g1.symm.trans e1, ?_, g4.symm.trans e4⟩
        show (gN al L B.length lo hi).toNat = l.length
        rw [← g2, e2, Int.toNat_natCast]
      · obtain ⟨p1, p2, p3⟩ := lPut_form hle hh al B
        rw [Int.toNat_natCast, lfst_small hn] at p1
        rw [gl_open hh, p1, putF_has (L := L) (al := al) (B := B) (c := l.length) ⟨S ++ T, by rw [hT, hS, p1, List.append_assoc]⟩ (.inl hn)]
        exact ⟨rfl, rfl, rfl⟩
    obtain ⟨g1, g2, g3⟩ := hg
    rw [rS_var hv hf g1]
    have hp : gU al tx k U L B.length lo hi = ⟨0, l, q⟩ := by
      unfold gU
      rw [g2, g3]
      exact part_back ⟨T, hT⟩ hU
    rw [hp]
    unfold rdFin
    rw [if_pos rfl, if_neg (by simp only; omega)]
theorem bstr_cods (s : ByteArray) : bstr (cods s) = s := by
  unfold bstr cods
  apply ByteArray.ext
  simp only
  rw [List.map_map]
  have : (UInt8.ofNat ∘ fun x : UInt8 => x.toNat) = id := by
    funext x
    simp
  rw [this, List.map_id]
theorem bits_text {s : ByteArray} (h : isBit (cods s) = true) : bstr ((bitN (cods s)).map fun u => (u + 48) % 256) = s := by
  have e : (bitN (cods s)).map (fun u => (u + 48) % 256) = cods s := by
    unfold bitN
    rw [List.map_map]
    conv => rhs; rw [← List.map_id (cods s)]
    apply List.map_congr_left
    intro x hx
    have := (List.all_eq_true.1 h) x hx
    simp at this
    simp
    omega
  rw [e, bstr_cods]
theorem bitN_lt {l : List Nat} (h : isBit l = true) : ∀ x ∈ bitN l, x < 2 ^ 1 := by
  intro x hx
  obtain ⟨c, hc, rfl⟩ := List.mem_map.1 hx
  have := (List.all_eq_true.1 h) c hc
  simp at this
  omega
theorem num_mem_ok {fl : List Nat} {al : Bool} {l : List Nat} (hA : isAl fl = true) (h : allOk (numOf fl (wdT fl al)) l = true) (c : Nat) (hc : c ∈ l) : ∃ n : Nat, numOf fl (wdT fl al) c = n ∧ n < 2 ^ wdT fl al ∧ c ∈ sp fl := by
  have := (List.all_eq_true.1 h) c hc
  have hm := nmo_mem (l := fl) (k := wdT fl al) (c := c) (by simpa using this)
  obtain ⟨n, h1, h2, _⟩ := nmo_fits hA al hm
  exact ⟨n, h1, h2, hm⟩
theorem numN_lt {fl : List Nat} {al : Bool} {l : List Nat} (hA : isAl fl = true) (h : allOk (numOf fl (wdT fl al)) l = true) : ∀ x ∈ numN (numOf fl (wdT fl al)) l, x < 2 ^ wdT fl al := by
  intro x hx
  obtain ⟨c, hc, rfl⟩ := List.mem_map.1 hx
  obtain ⟨n, h1, h2, _⟩ := num_mem_ok hA h c hc
  rw [h1]
  exact h2
theorem text_text {fl : List Nat} {al : Bool} {s : ByteArray} (hA : isAl fl = true) (h : allOk (numOf fl (wdT fl al)) (cods s) = true) :
    allOk (fun u => chOf fl (wdT fl al) u) (numN (numOf fl (wdT fl al)) (cods s)) = true ∧ bstr ((numN (numOf fl (wdT fl al)) (cods s)).map fun u => (chOf fl (wdT fl al) u).toNat) = s := by
  have key : ∀ c ∈ cods s, chOf fl (wdT fl al) (numOf fl (wdT fl al) c).toNat = c := by
    intro c hc
    obtain ⟨n, h1, h2, h3⟩ := num_mem_ok hA h c hc
    rw [h1]
    exact chOf_num hA h3 h1
  constructor
  · unfold allOk numN
    rw [List.all_eq_true]
    intro x hx
    obtain ⟨c, hc, rfl⟩ := List.mem_map.1 hx
    simp only [key c hc]
    simp
  · have e : (numN (numOf fl (wdT fl al)) (cods s)).map (fun u => (chOf fl (wdT fl al) u).toNat) = cods s := by
      unfold numN
      rw [List.map_map]
      conv => rhs; rw [← List.map_id (cods s)]
      apply List.map_congr_left
      intro c hc
      show (chOf fl (wdT fl al) (numOf fl (wdT fl al) c).toNat).toNat = c
      rw [key c hc]
      rfl
    rw [e, bstr_cods]
theorem eE_zero {ok : Bool} {n : Nat} {lo hi : Int} (h : eE ok n lo hi = 0) : ok = true ∧ sE n lo hi = 0 := by
  unfold eE at h
  split at h
  · cases h
  · split at h
    · rename_i h1
      exact ⟨h1, h⟩
    · cases h
theorem tE_zero {fl : List Nat} {al : Bool} {l : List Nat} {lo hi : Int} (h : tE fl al l lo hi = 0) : isAl fl = true ∧ allOk (numOf fl (wdT fl al)) l = true ∧ sE l.length lo hi = 0 := by
  unfold tE at h
  split at h
  · rename_i h1
    exact ⟨h1, eE_zero h⟩
  · cases h
/-- the three, one behind the other -/
theorem back_math (al : Bool) (B0 : List Bool) (l : List Nat) (bits s : ByteArray) (fl : List Nat) (lo1 hi1 lo2 hi2 lo3 hi3 : Int) (W1 W2 W3 : List Bool)
    (b1 : -9223372036854775808 ≤ hi1 ∧ hi1 ≤ 9223372036854775807) (b2 : -9223372036854775808 ≤ hi2 ∧ hi2 ≤ 9223372036854775807) (b3 : -9223372036854775808 ≤ hi3 ∧ hi3 ≤ 9223372036854775807)
    (c1 : -9223372036854775808 ≤ lo1 ∧ lo1 ≤ 9223372036854775807) (c2 : -9223372036854775808 ≤ lo2 ∧ lo2 ≤ 9223372036854775807) (c3 : -9223372036854775808 ≤ lo3 ∧ lo3 ≤ 9223372036854775807)
    (hl : l.length ≤ 2000) (hb : bits.size ≤ 2000) (hs : s.size ≤ 2000) (hb8 : ∀ i, l.getD i 0 < 256) (h1 : sE l.length lo1 hi1 = 0) (h2 : eE (isBit (cods bits)) bits.size lo2 hi2 = 0) (h3 : tE fl al (cods s) lo3 hi3 = 0)
    (e1 : stB al false 8 B0 lo1 hi1 l = W1) (e2 : eB (isBit (cods bits)) al false 1 W1 lo2 hi2 (bitN (cods bits)) = W2) (e3 : tB fl al (cods s) W2 lo3 hi3 = W3) :
    (rS al false 8 (fun n p => oGo (wb W3) n p) (wb W3) B0.length lo1 hi1 = ⟨0, l, W1.length⟩ ∧ Last al false 8 (fun n p => oGo (wb W3) n p) (wb W3) B0.length lo1 hi1) ∧
    (rS al false 1 (fun n p => uGo (wb W3) 1 n p []) (wb W3) W1.length lo2 hi2 = ⟨0, bitN (cods bits), W2.length⟩ ∧ Last al false 1 (fun n p => uGo (wb W3) 1 n p []) (wb W3) W1.length lo2 hi2) ∧
    (rS al true (wdT fl al) (fun n p => uGo (wb W3) (wdT fl al) n p []) (wb W3) W2.length lo3 hi3 = ⟨0, numN (numOf fl (wdT fl al)) (cods s), W3.length⟩ ∧ Last al true (wdT fl al) (fun n p => uGo (wb W3) (wdT fl al) n p []) (wb W3) W2.length lo3 hi3) ∧
    (∃ S, W3 = B0 ++ S) ∧ W1.length ≤ B0.length + 20000 ∧ W2.length ≤ B0.length + 40000 ∧ W3.length ≤ B0.length + 60000 := by
  obtain ⟨k1, k2⟩ := eE_zero h2
  obtain ⟨k3, k4, k5⟩ := tE_zero h3
  have hbl : (bitN (cods bits)).length = bits.size := by rw [bitN_length, cods_length]
  have hsl := cods_length s
  have hnl : (numN (numOf fl (wdT fl al)) (cods s)).length = (cods s).length := numN_length _ _
  have hk8 := wdT_le fl al
  rw [stB_ok h1] at e1
  unfold eB at e2
  rw [hbl, if_pos h2] at e2
  unfold tB at e3
  rw [if_pos h3] at e3
  have l1 := stP_le al false 8 B0 l.length lo1 hi1 (by omega) c1 b1
  have l2 := stP_le al false 1 W1 bits.size lo2 hi2 (by omega) c2 b2
  have l3 := stP_le al true (wdT fl al) W2 (cods s).length lo3 hi3 (by omega) c3 b3
  obtain ⟨m, hm, _⟩ := wb_bits W3
  obtain ⟨S1, hS1⟩ := stP_pre al false 8 B0 l.length lo1 hi1
  obtain ⟨S2, hS2⟩ := stP_pre al false 1 W1 bits.size lo2 hi2
  obtain ⟨S3, hS3⟩ := stP_pre al true (wdT fl al) W2 (cods s).length lo3 hi3
  have u1 := ubits_length 8 l
  have u2 := ubits_length 1 (bitN (cods bits))
  have u3 := ubits_length (wdT fl al) (numN (numOf fl (wdT fl al)) (cods s))
  have u3' : (cods s).length * wdT fl al ≤ 16000 := Nat.le_trans (Nat.mul_le_mul_left _ hk8) (by omega)
  rw [hnl] at u3
  rw [hbl] at u2
  have f3 : ∃ T, bitsOf (wb W3) = W3 ++ T := ⟨_, hm⟩
  have f3a : ∃ T, bitsOf (wb W3) = stP al true (wdT fl al) W2 (cods s).length lo3 hi3 ++ ubits (wdT fl al) (numN (numOf fl (wdT fl al)) (cods s)) ++ T := by rw [e3]; exact f3
  have f2 : ∃ T, bitsOf (wb W3) = W2 ++ T := by
    obtain ⟨T, hT⟩ := f3a
    exact ⟨S3 ++ (ubits (wdT fl al) (numN (numOf fl (wdT fl al)) (cods s)) ++ T), by rw [hT, hS3]; simp only [List.append_assoc]⟩
  have f2a : ∃ T, bitsOf (wb W3) = stP al false 1 W1 bits.size lo2 hi2 ++ ubits 1 (bitN (cods bits)) ++ T := by rw [e2]; exact f2
  have f1 : ∃ T, bitsOf (wb W3) = W1 ++ T := by
    obtain ⟨T, hT⟩ := f2a
    exact ⟨S2 ++ (ubits 1 (bitN (cods bits)) ++ T), by rw [hT, hS2]; simp only [List.append_assoc]⟩
  have f1a : ∃ T, bitsOf (wb W3) = stP al false 8 B0 l.length lo1 hi1 ++ bitsOf l ++ T := by rw [← e1] at f1; exact f1
  have tail : ∀ {A S : List Bool}, (∃ T, bitsOf (wb W3) = A ++ S ++ T) → ∃ T, bitsOf (wb W3) = A ++ T := fun {A S} ⟨T, hT⟩ => ⟨S ++ T, by rw [hT, List.append_assoc]⟩
  refine ⟨rS_back h1 (by omega) (tail f1a) ?_, rS_back (l := bitN (cods bits)) (by rw [hbl]; exact k2) (by omega) (by rw [hbl]; exact tail f2a) ?_, rS_back (l := numN (numOf fl (wdT fl al)) (cods s)) (by rw [hnl]; exact k5) (by omega) (by rw [hnl]; exact tail f3a) ?_, ?_, ?_, ?_, ?_⟩
  · show oGo (wb W3) l.length _ = _
    rw [oGo_back (wb W3) _ l f1a hb8, ← e1, List.length_append, u1]
  · show uGo (wb W3) 1 (bitN (cods bits)).length _ [] = _
    rw [hbl]
    have := uGo_back (wb W3) 1 (by omega) (bitN (cods bits)) _ [] f2a (bitN_lt k1)
    rw [hbl] at this
    rw [this, ← e2, List.length_append, u2, List.nil_append]
  · show uGo (wb W3) (wdT fl al) (numN (numOf fl (wdT fl al)) (cods s)).length _ [] = _
    rw [hnl]
    have := uGo_back (wb W3) (wdT fl al) (by omega) (numN (numOf fl (wdT fl al)) (cods s)) _ [] f3a (numN_lt k3 k4)
    rw [hnl] at this
    rw [this, ← e3, List.length_append, u3, List.nil_append]
  · exact ⟨S1 ++ ubits 8 l ++ (S2 ++ ubits 1 (bitN (cods bits)) ++ (S3 ++ ubits (wdT fl al) (numN (numOf fl (wdT fl al)) (cods s)))), by rw [← e3, hS3, ← e2, hS2, ← e1, hS1]; simp only [List.append_assoc]⟩
  · rw [← e1, List.length_append, u1]; omega
  · have w1 : W1.length ≤ B0.length + 16107 := by rw [← e1, List.length_append, u1]; omega
    rw [← e2, List.length_append, u2]
    omega
  · have w1 : W1.length ≤ B0.length + 16107 := by rw [← e1, List.length_append, u1]; omega
    have w2 : W2.length ≤ B0.length + 16107 + 2107 := by rw [← e2, List.length_append, u2]; omega
    rw [← e3, List.length_append, u3]
    omega
end Go.Proofs.Ytbbbgoigacledaa
